/-
  What the functions of package bits come to: Range.
-/
import Derived.Test.YthkngjokbkfebaaBitC
namespace Go.Proofs.Ythkngjokbkfebaa
open Go.RowKit

theorem brng_arg (A : Option Addr) (l c : Nat) (a err : Int) (n : Nat) (w : World) (hl : l ≤ 140737488355328) (h : ¬ (readerB l a err = true ∧ 1 ≤ n ∧ n ≤ 4294967296)) :
    Calls Try.prog 13 #[.agg #[.slice A l c, .int .i64 a, .int .i64 err], .int .u64 n] w
      (Says w (.tuple #[.agg #[.slice A l c, .int .i64 a, .int .i64 (if err = 0 then 1 else err)], .int .u64 0])) := by
  have F := Lib.hid (fun w => bfail_any A l c a err 1 w)
  generalize (if err = 0 then 1 else err) = er at *
  by_cases hr : readerB l a err = true
  · have hz := Lib.hid (show decide (1 ≤ n ∧ n ≤ 4294967296) = false by simp only [decide_eq_false_iff_not]; exact fun k => h ⟨hr, k⟩)
    have H := Lib.hid hr
    clear h hr
    go_enter Try.func13, Try.ntmps13
    go_wp2_with fail
    refine (isReader_is _ _ _ _ _ _ hl true H.out).mono ?_
    rintro e w1 ⟨rfl, hW⟩
    obtain ⟨c0, c1, c2, c3, c4, c5, hf, hsz⟩ := cells33 hW
    go_wp2_with fail
    refine (isRange_is _ _ false hz.out).mono ?_
    rintro e w' ⟨rfl, rfl⟩
    go_wp2_with fail
    refine (F.out _).mono ?_
    rintro e w2 ⟨rfl, hb⟩
    have hW2 := hW.trans (hb.mono hW.size)
    clear c0 c1 c2 c3 c4 c5 hf hsz hW hb
    obtain ⟨c0, c1, c2, c3, c4, c5, hf, hsz⟩ := cells33 hW2
    have hB2 := (below2 w _ _).trans (hW2.mono (by simp; omega))
    clear hW2
    go_wp2
    refine bodyPost_ret (v := .tuple #[.agg #[.slice A l c, .int .i64 a, .int .i64 er], .int .u64 0]) (by simp [results, Try.results13, go_sem, *]) rfl ⟨rfl, ?_⟩
    exact ((hB2.setCell (by simp) _).setCell (by simp) _).setCell (by simp) _
  · have H := Lib.hid (show readerB l a err = false by simpa using hr)
    clear h hr
    go_enter Try.func13, Try.ntmps13
    go_wp2_with fail
    refine (isReader_is _ _ _ _ _ _ hl false H.out).mono ?_
    rintro e w1 ⟨rfl, hW⟩
    obtain ⟨c0, c1, c2, c3, c4, c5, hf, hsz⟩ := cells33 hW
    go_wp2_with fail
    refine (F.out _).mono ?_
    rintro e w2 ⟨rfl, hb⟩
    have hW2 := hW.trans (hb.mono hW.size)
    clear c0 c1 c2 c3 c4 c5 hf hsz hW hb
    obtain ⟨c0, c1, c2, c3, c4, c5, hf, hsz⟩ := cells33 hW2
    have hB2 := (below2 w _ _).trans (hW2.mono (by simp; omega))
    clear hW2
    go_wp2
    refine bodyPost_ret (v := .tuple #[.agg #[.slice A l c, .int .i64 a, .int .i64 er], .int .u64 0]) (by simp [results, Try.results13, go_sem, *]) rfl ⟨rfl, ?_⟩
    exact ((hB2.setCell (by simp) _).setCell (by simp) _).setCell (by simp) _

set_option maxRecDepth 100000 in
set_option maxHeartbeats 1000000 in
theorem brng_main (A : Option Addr) (l c : Nat) (s : List UInt8) (a n : Nat) (w : World) (hs : Bs w A l c s) (hl : l ≤ 140737488355328) (h1 : 1 ≤ n) (h2 : n ≤ 4294967296) (ha : a ≤ 8 * l) :
    Calls Try.prog 13 #[.agg #[.slice A l c, .int .i64 a, .int .i64 0], .int .u64 n] w
      (Says w (.tuple #[.agg #[.slice A l c, .int .i64 (brngA s a 0 n), .int .i64 (brngE s a 0 n)], .int .u64 (brngV s a 0 n)])) := by
  have hlen := hs.len
  have hr := readerB_mk (l := l) (a := a) rfl (by omega) (by omega)
  have hE : brngE s a 0 n = if 8 * (l : Int) - a < (wd n : Int) - 1 then 2 else if numAt s a (wd n - 1) < md n then 0 else if 8 * (l : Int) - a < wd n then 2 else 0 := by
    unfold brngE; rw [hlen, if_pos ⟨hr, h1, h2⟩, Int.toNat_natCast]
  have hA : brngA s a 0 n = if brngE s a 0 n = 0 then (if numAt s a (wd n - 1) < md n then a + (wd n : Int) - 1 else a + wd n) else a := by
    unfold brngA; rw [Int.toNat_natCast]
  have hV : brngV s a 0 n = if brngE s a 0 n = 0 then (if numAt s a (wd n - 1) < md n then numAt s a (wd n - 1) else numAt s a (wd n) - md n) else 0 := by
    unfold brngV; rw [Int.toNat_natCast]
  have W := Lib.hid (fun w => widths_any n w h1 h2)
  have g1 := wd_pos n
  have g2 := wd_le h1 h2
  have H := Lib.hid hr
  have hz := Lib.hid (show decide (1 ≤ n ∧ n ≤ 4294967296) = true by simp; omega)
  have F := Lib.hid (fun w => bfail_any A l c a 0 2 w)
  rw [if_pos rfl] at F
  have hN := numAt_succ s a (wd n - 1)
  rw [show wd n - 1 + 1 = wd n by omega] at hN
  have hml := md_le h1
  have hvl := numAt_lt s a (wd n - 1)
  have hp : (2 : Nat) ^ (wd n - 1) ≤ 4294967296 := Nat.pow_le_pow_right (n := 2) (j := 32) (by omega) (by omega)
  generalize wd n = d at *
  generalize md n = m at *
  obtain ⟨k, rfl⟩ : ∃ k, d = k + 1 := ⟨d - 1, by omega⟩
  rw [Nat.add_sub_cancel] at *
  clear hr
  by_cases q1 : 8 * (l : Int) - a < k
  · have G := Lib.hid (fun w => bget_short A l c a k w hl (by omega) ha (by omega))
    rw [if_pos (by omega)] at hE
    rw [hE, if_neg (by omega)] at hA hV
    rw [hE, hA, hV]
    clear hE hA hV hN hml hvl hp
    go_enter Try.func13, Try.ntmps13
    go_wp2_with fail
    refine (isReader_is _ _ _ _ _ _ hl true H.out).mono ?_
    rintro e w1 ⟨rfl, hW⟩
    have hB := (below2 w _ _).trans (hW.mono (by simp; omega))
    have k1 := ((Box.new w _ _).alloc _).call hW
    have k2 := (Box.new (w.alloc _) _ _).call hW
    rw [World.size_alloc] at k2
    clear hW
    obtain ⟨c0, c1, c2, f0, f1, f2, l1⟩ := k1.three
    obtain ⟨c3, c4, c5, f3, f4, f5, l2⟩ := k2.three
    go_wp2_with fail
    refine (isRange_is _ _ true hz.out).mono ?_
    rintro e w' ⟨rfl, rfl⟩
    go_wp2_with fail
    refine (W.out _).mono ?_
    rintro e w2 ⟨rfl, hb⟩
    replace k1 := k1.call hb
    replace k2 := k2.call hb
    replace hB := hB.trans (hb.mono hB.size)
    clear hb c0 c1 c2 c3 c4 c5 f0 f1 f2 f3 f4 f5 l1 l2
    obtain ⟨c0, c1, c2, f0, f1, f2, l1⟩ := k1.three
    obtain ⟨c3, c4, c5, f3, f4, f5, l2⟩ := k2.three
    go_wp2_with fail
    refine (G.out _).mono ?_
    rintro e w3 ⟨rfl, hb⟩
    replace k1 := k1.call hb
    replace k2 := k2.call hb
    replace hB := hB.trans (hb.mono hB.size)
    clear hb c0 c1 c2 c3 c4 c5 f0 f1 f2 f3 f4 f5 l1 l2
    obtain ⟨c0, c1, c2, f0, f1, f2, l1⟩ := k1.three
    obtain ⟨c3, c4, c5, f3, f4, f5, l2⟩ := k2.three
    go_wp2_with fail
    refine (F.out _).mono ?_
    rintro e w4 ⟨rfl, hb⟩
    replace k1 := (k1.alloc _).call hb
    replace k2 := (k2.alloc _).call hb
    replace hB := (hB.alloc hB.size _).trans (hb.mono (by have := hB.size; simp; omega))
    clear hb c0 c1 c2 c3 c4 c5 f0 f1 f2 f3 f4 f5 l1 l2
    obtain ⟨c0, c1, c2, f0, f1, f2, l1⟩ := k1.three
    obtain ⟨c3, c4, c5, f3, f4, f5, l2⟩ := k2.three
    go_wp2
    refine bodyPost_ret (v := .tuple #[.agg #[.slice A l c, .int .i64 a, .int .i64 2], .int .u64 0]) (by simp [results, Try.results13, go_sem, *]) rfl ⟨rfl, ?_⟩
    exact ((hB.setCell (by simp) _).setCell (by simp) _).setCell (by simp) _
  · have G := Lib.hid (fun w hs => bget_yes A l c s a k w hs hl (by omega) (by omega))
    rw [if_neg (by omega)] at hE
    by_cases q2 : numAt s a k < m
    · rw [if_pos q2] at hE hA hV
      rw [hE, if_pos rfl] at hA hV
      rw [hE, hA, hV]
      have e1 : (a : Int) + ((k + 1 : Nat) : Int) - 1 = (a : Int) + k := by omega
      rw [e1]
      clear hE hA hV hN hml hvl hp e1
      generalize numAt s a k = v at *
      go_enter Try.func13, Try.ntmps13
      go_wp2_with fail
      refine (isReader_is _ _ _ _ _ _ hl true H.out).mono ?_
      rintro e w1 ⟨rfl, hW⟩
      have hB := (below2 w _ _).trans (hW.mono (by simp; omega))
      have k1 := ((Box.new w _ _).alloc _).call hW
      have k2 := (Box.new (w.alloc _) _ _).call hW
      rw [World.size_alloc] at k2
      clear hW
      obtain ⟨c0, c1, c2, f0, f1, f2, l1⟩ := k1.three
      obtain ⟨c3, c4, c5, f3, f4, f5, l2⟩ := k2.three
      go_wp2_with fail
      refine (isRange_is _ _ true hz.out).mono ?_
      rintro e w' ⟨rfl, rfl⟩
      go_wp2_with fail
      refine (W.out _).mono ?_
      rintro e w2 ⟨rfl, hb⟩
      replace k1 := k1.call hb
      replace k2 := k2.call hb
      replace hB := hB.trans (hb.mono hB.size)
      clear hb c0 c1 c2 c3 c4 c5 f0 f1 f2 f3 f4 f5 l1 l2
      obtain ⟨c0, c1, c2, f0, f1, f2, l1⟩ := k1.three
      obtain ⟨c3, c4, c5, f3, f4, f5, l2⟩ := k2.three
      go_wp2_with fail
      refine (G.out _ (hs.below hB)).mono ?_
      rintro e w3 ⟨rfl, hb⟩
      replace k1 := k1.call hb
      replace k2 := k2.call hb
      replace hB := hB.trans (hb.mono hB.size)
      clear hb c0 c1 c2 c3 c4 c5 f0 f1 f2 f3 f4 f5 l1 l2
      obtain ⟨c0, c1, c2, f0, f1, f2, l1⟩ := k1.three
      obtain ⟨c3, c4, c5, f3, f4, f5, l2⟩ := k2.three
      go_wp2
      refine bodyPost_ret (v := .tuple #[.agg #[.slice A l c, .int .i64 ((a : Int) + k), .int .i64 0], .int .u64 v]) (by simp [results, Try.results13, go_sem, *]) rfl ⟨rfl, ?_⟩
      exact (((hB.setCell (by simp) _).setCell (by simp) _).setCell (by simp) _).alloc (by simp; omega) _
    · rw [if_neg q2] at hE hA hV
      by_cases q3 : 8 * (l : Int) - a < ((k + 1 : Nat) : Int)
      · have G2 := bget_short A l c (a + k) 1
        rw [Int.natCast_add, show ((1 : Nat) : Int) = 1 from rfl] at G2
        replace G2 := Lib.hid (fun w => G2 w hl (by omega) (by omega) (by omega))
        rw [if_pos q3] at hE
        rw [hE, if_neg (by omega)] at hA hV
        rw [hE, hA, hV]
        clear hE hA hV hN hml hvl hp
        generalize numAt s a k = v at *
        go_enter Try.func13, Try.ntmps13
        go_wp2_with fail
        refine (isReader_is _ _ _ _ _ _ hl true H.out).mono ?_
        rintro e w1 ⟨rfl, hW⟩
        have hB := (below2 w _ _).trans (hW.mono (by simp; omega))
        have k1 := ((Box.new w _ _).alloc _).call hW
        have k2 := (Box.new (w.alloc _) _ _).call hW
        rw [World.size_alloc] at k2
        clear hW
        obtain ⟨c0, c1, c2, f0, f1, f2, l1⟩ := k1.three
        obtain ⟨c3, c4, c5, f3, f4, f5, l2⟩ := k2.three
        go_wp2_with fail
        refine (isRange_is _ _ true hz.out).mono ?_
        rintro e w' ⟨rfl, rfl⟩
        go_wp2_with fail
        refine (W.out _).mono ?_
        rintro e w2 ⟨rfl, hb⟩
        replace k1 := k1.call hb
        replace k2 := k2.call hb
        replace hB := hB.trans (hb.mono hB.size)
        clear hb c0 c1 c2 c3 c4 c5 f0 f1 f2 f3 f4 f5 l1 l2
        obtain ⟨c0, c1, c2, f0, f1, f2, l1⟩ := k1.three
        obtain ⟨c3, c4, c5, f3, f4, f5, l2⟩ := k2.three
        go_wp2_with fail
        refine (G.out _ (hs.below hB)).mono ?_
        rintro e w3 ⟨rfl, hb⟩
        replace k1 := k1.call hb
        replace k2 := k2.call hb
        replace hB := hB.trans (hb.mono hB.size)
        clear hb c0 c1 c2 c3 c4 c5 f0 f1 f2 f3 f4 f5 l1 l2
        obtain ⟨c0, c1, c2, f0, f1, f2, l1⟩ := k1.three
        obtain ⟨c3, c4, c5, f3, f4, f5, l2⟩ := k2.three
        go_wp2_with fail
        refine (G2.out _).mono ?_
        rintro e w4 ⟨rfl, hb⟩
        have k3 := (Box.new w3 _ _).call hb
        have n1 : w3.heap.size ≠ w.heap.size := by omega
        have n2 : w3.heap.size ≠ w.heap.size + 1 := by omega
        have n3 : w.heap.size ≠ w3.heap.size := by omega
        have n4 : w.heap.size + 1 ≠ w3.heap.size := by omega
        have n5 : w.heap.size ≤ w3.heap.size := by omega
        replace k1 := (k1.alloc _).call hb
        replace k2 := (k2.alloc _).call hb
        replace hB := (hB.alloc hB.size _).trans (hb.mono (by have := hB.size; simp; omega))
        clear hb c0 c1 c2 c3 c4 c5 f0 f1 f2 f3 f4 f5 l1 l2
        obtain ⟨c0, c1, c2, f0, f1, f2, l1⟩ := k1.three
        obtain ⟨c3, c4, c5, f3, f4, f5, l2⟩ := k2.three
        obtain ⟨c6, c7, c8, f6, f7, f8, l3⟩ := k3.three
        go_wp2_with fail
        refine (F.out _).mono ?_
        rintro e w5 ⟨rfl, hb⟩
        replace k1 := (((k1.other _ n1).other _ n1).other _ n1).call hb
        replace k2 := (((k2.other _ n2).other _ n2).other _ n2).call hb
        replace hB := (((hB.setCell n5 _).setCell n5 _).setCell n5 _).trans (hb.mono (by have := hB.size; simp; omega))
        clear hb c6 c7 c8 f6 f7 f8 l3 c0 c1 c2 c3 c4 c5 f0 f1 f2 f3 f4 f5 l1 l2
        obtain ⟨c0, c1, c2, f0, f1, f2, l1⟩ := k1.three
        obtain ⟨c3, c4, c5, f3, f4, f5, l2⟩ := k2.three
        go_wp2
        refine bodyPost_ret (v := .tuple #[.agg #[.slice A l c, .int .i64 a, .int .i64 2], .int .u64 0]) (by simp [results, Try.results13, go_sem, *]) rfl ⟨rfl, ?_⟩
        exact ((hB.setCell (by simp) _).setCell (by simp) _).setCell (by simp) _
      · have G2 := bget_yes A l c s (a + k) 1
        rw [Int.natCast_add, show ((1 : Nat) : Int) = 1 from rfl] at G2
        have hone : numAt s (a + k) 1 = (bitAt s (a + k)).toNat := by simp [numAt]
        rw [hone] at G2
        replace G2 := Lib.hid (fun w hs => G2 w hs hl (by omega) (by omega))
        rw [if_neg q3] at hE
        rw [hE, if_pos rfl] at hA hV
        rw [hE, hA, hV, hN]
        have e1 : (a : Int) + ((k + 1 : Nat) : Int) = (a : Int) + k + 1 := by omega
        rw [e1]
        have hbt := Bool.toNat_lt (bitAt s (a + k))
        clear hE hA hV hN hml hone e1
        generalize numAt s a k = v at *
        generalize (bitAt s (a + k)).toNat = b at *
        have e2 : ((v * 2 + b - m : Nat) : Int) = (v : Int) * 2 + b - m := by omega
        rw [e2]
        clear e2
        go_enter Try.func13, Try.ntmps13
        go_wp2_with fail
        refine (isReader_is _ _ _ _ _ _ hl true H.out).mono ?_
        rintro e w1 ⟨rfl, hW⟩
        have hB := (below2 w _ _).trans (hW.mono (by simp; omega))
        have k1 := ((Box.new w _ _).alloc _).call hW
        have k2 := (Box.new (w.alloc _) _ _).call hW
        rw [World.size_alloc] at k2
        clear hW
        obtain ⟨c0, c1, c2, f0, f1, f2, l1⟩ := k1.three
        obtain ⟨c3, c4, c5, f3, f4, f5, l2⟩ := k2.three
        go_wp2_with fail
        refine (isRange_is _ _ true hz.out).mono ?_
        rintro e w' ⟨rfl, rfl⟩
        go_wp2_with fail
        refine (W.out _).mono ?_
        rintro e w2 ⟨rfl, hb⟩
        replace k1 := k1.call hb
        replace k2 := k2.call hb
        replace hB := hB.trans (hb.mono hB.size)
        clear hb c0 c1 c2 c3 c4 c5 f0 f1 f2 f3 f4 f5 l1 l2
        obtain ⟨c0, c1, c2, f0, f1, f2, l1⟩ := k1.three
        obtain ⟨c3, c4, c5, f3, f4, f5, l2⟩ := k2.three
        go_wp2_with fail
        refine (G.out _ (hs.below hB)).mono ?_
        rintro e w3 ⟨rfl, hb⟩
        replace k1 := k1.call hb
        replace k2 := k2.call hb
        replace hB := hB.trans (hb.mono hB.size)
        clear hb c0 c1 c2 c3 c4 c5 f0 f1 f2 f3 f4 f5 l1 l2
        obtain ⟨c0, c1, c2, f0, f1, f2, l1⟩ := k1.three
        obtain ⟨c3, c4, c5, f3, f4, f5, l2⟩ := k2.three
        go_wp2_with fail
        refine (G2.out _ ((hs.below hB).alloc _)).mono ?_
        rintro e w4 ⟨rfl, hb⟩
        have k3 := (Box.new w3 _ _).call hb
        have n1 : w3.heap.size ≠ w.heap.size := by omega
        have n2 : w3.heap.size ≠ w.heap.size + 1 := by omega
        have n3 : w.heap.size ≠ w3.heap.size := by omega
        have n4 : w.heap.size + 1 ≠ w3.heap.size := by omega
        have n5 : w.heap.size ≤ w3.heap.size := by omega
        replace k1 := (k1.alloc _).call hb
        replace k2 := (k2.alloc _).call hb
        replace hB := (hB.alloc hB.size _).trans (hb.mono (by have := hB.size; simp; omega))
        clear hb c0 c1 c2 c3 c4 c5 f0 f1 f2 f3 f4 f5 l1 l2
        obtain ⟨c0, c1, c2, f0, f1, f2, l1⟩ := k1.three
        obtain ⟨c3, c4, c5, f3, f4, f5, l2⟩ := k2.three
        obtain ⟨c6, c7, c8, f6, f7, f8, l3⟩ := k3.three
        go_wp2
        refine bodyPost_ret (v := .tuple #[.agg #[.slice A l c, .int .i64 ((a : Int) + k + 1), .int .i64 0], .int .u64 ((v : Int) * 2 + b - m)]) (by simp [results, Try.results13, go_sem, *]) rfl ⟨rfl, ?_⟩
        exact (((((hB.setCell n5 _).setCell n5 _).setCell n5 _).setCell (by simp) _).setCell (by simp) _).setCell (by simp) _

theorem brng_any (A : Option Addr) (l c : Nat) (s : List UInt8) (a err : Int) (n : Nat) (w : World) (hs : Bs w A l c s) (hl : l ≤ 140737488355328) :
    Calls Try.prog 13 #[.agg #[.slice A l c, .int .i64 a, .int .i64 err], .int .u64 n] w
      (Says w (.tuple #[.agg #[.slice A l c, .int .i64 (brngA s a err n), .int .i64 (brngE s a err n)], .int .u64 (brngV s a err n)])) := by
  have hlen := hs.len
  by_cases h : readerB l a err = true ∧ 1 ≤ n ∧ n ≤ 4294967296
  · obtain ⟨hr, h1, h2⟩ := h
    obtain ⟨rfl, ha0, ha1⟩ := readerB_yes hr
    obtain ⟨a, rfl⟩ := Int.eq_ofNat_of_zero_le ha0
    exact brng_main A l c s a n w hs hl h1 h2 (by omega)
  · have e0 : brngE s a err n = if err = 0 then 1 else err := if_neg (by rw [hlen]; exact h)
    have hne : brngE s a err n ≠ 0 := by rw [e0]; split <;> omega
    rw [show brngV s a err n = 0 from if_neg hne, show brngA s a err n = a from if_neg hne, e0]
    exact brng_arg A l c a err n w hl h

end Go.Proofs.Ythkngjokbkfebaa

/-
  What the functions of package train come to: isWhole, trailOf, first, Close.
-/
import Derived.Test.YtkfinkmbdpdepaaTrainP
import Derived.Test.YtkfinkmbdpdepaaComG
import Derived.Test.YtkfinkmbdpdepaaClone
import Derived.Test.YtkfinkmbdpdepaaRound
namespace Go.Proofs.Ytkfinkmbdpdepaa
open Go.RowKit
set_option linter.unusedVariables false
set_option linter.unusedSimpArgs false

theorem tr_isWhole (n : Int) (w : World) :
    Calls Try.prog 20 #[.int .i64 n] w fun e w' => e = .returned (.bool (decide (roundN n = n))) ∧ w' = w := by
  have R := Lib.hid (fun w => round_any n w)
  generalize roundN n = r at *
  have hq : (r == n) = decide (r = n) := by rw [Bool.eq_iff_iff]; simp
  go_enter Try.func20, Try.ntmps20
  go_wp2_with fail
  refine (R.out _).mono ?_
  rintro e w' ⟨rfl, rfl⟩
  go_wp2_with fail
  go_ret
  exact ⟨by first | rfl | rw [hq], rfl⟩
theorem whole_iff (n : Nat) (h : n ≤ 2147483648) : decide (roundN n = n) = decide (n % 4 = 0) := by
  rw [decide_eq_decide, roundN_yes h]
  unfold miss
  omega
theorem whole_neg {t : Int} (h : t < 0) : decide (roundN t = t) = false := by
  rw [roundN_no (.inl h)]
  exact decide_eq_false (by omega)

def trP (p : Bool) (u : List UInt8) : Nat := if p = true then (if trailN u = 0 ∨ trailN u % 4 ≠ 0 then 0 else trailN u) else 0
def trE (p : Bool) (u : List UInt8) : Nat := if p = true ∧ (trailN u = 0 ∨ trailN u % 4 ≠ 0) then 5 else 0
theorem trE_open {s : List UInt8} (h : cmE s = 0) (h2 : (readCm s).size = s.length) : openE s = trE (readCm s).pad (s.drop 4) ∧ openN s = trP (readCm s).pad (s.drop 4) := by
  have e : openE s = trE (readCm s).pad (s.drop 4) := by unfold openE trE; rw [if_neg (by omega), if_neg (by omega)]
  refine ⟨e, ?_⟩
  unfold openN trP openP
  rw [e]
  unfold trE
  by_cases hp : (readCm s).pad = true
  · by_cases ht : trailN (s.drop 4) = 0 ∨ trailN (s.drop 4) % 4 ≠ 0
    · simp [hp, ht]
    · simp [hp, ht]
  · simp [hp]
theorem trP_le (p : Bool) (u : List UInt8) : trP p u ≤ u.length := by
  have := trailN_le u
  unfold trP
  split
  · split <;> omega
  · omega

set_option maxHeartbeats 1000000 in
theorem tr_trailOf (p : Bool) (q t z : Int) (A : Option Addr) (n c : Nat) (s : List UInt8) (w : World) (hs : Bs w A n c s) (h4 : 4 ≤ n) :
    Calls Try.prog 16 #[.agg #[.bool p, .int .i64 q, .int .i64 t, .int .i64 z], .slice A n c] w (Says w (.tuple #[.int .i64 (trP p (s.drop 4)), .int .i64 (trE p (s.drop 4))])) := by
  have k1 := Box.new w [.bool p, .int .i64 q, .int .i64 t, .int .i64 z] 25
  have f1 := k1.all4.1
  have hB := below1 w (.cells #[.bool p, .int .i64 q, .int .i64 t, .int .i64 z] 25)
  cases p
  · have e1 : trP false (s.drop 4) = 0 := rfl
    have e2 : trE false (s.drop 4) = 0 := rfl
    rw [e1, e2]
    go_enter Try.func16, Try.ntmps16
    go_wp2_with fail
    go_ret2
    exact ⟨rfl, hB⟩
  · have hs1 := hs.alloc (.cells #[.bool true, .int .i64 q, .int .i64 t, .int .i64 z] 25)
    obtain ⟨A9, c9, hsl9, hb9⟩ := hs1.slice_l Try.underlying22 byte_size (a := 4) h4
    have hsl9' := fun W => hsl9 W (4 : Int) rfl
    clear hsl9
    have T := trail_any A9 (n - 4) c9 (s.drop 4) _ hb9
    have HP : Hid (trP true (s.drop 4) = if trailN (s.drop 4) = 0 ∨ trailN (s.drop 4) % 4 ≠ 0 then 0 else trailN (s.drop 4)) := Lib.hid rfl
    have HE : Hid (trE true (s.drop 4) = if true = true ∧ (trailN (s.drop 4) = 0 ∨ trailN (s.drop 4) % 4 ≠ 0) then 5 else 0) := Lib.hid rfl
    have hl := trailN_lt (s.drop 4)
    have HT : trailE (s.drop 4) = if trailN (s.drop 4) = 0 then 5 else 0 := rfl
    generalize trP true (s.drop 4) = P at *
    generalize trE true (s.drop 4) = E at *
    rw [HT] at T
    clear HT
    generalize trailN (s.drop 4) = v at *
    have W := Lib.hid (fun w => tr_isWhole (v : Int) w)
    rw [whole_iff v (by omega)] at W
    by_cases h0 : v = 0
    · have h0' : P = 0 := by rw [HP.out, if_pos (.inl h0)]
      have h0'' : E = 5 := by rw [HE.out, if_pos ⟨rfl, .inl h0⟩]
      rw [if_pos h0] at T
      subst h0' h0''
      have HT := Lib.hid T
      clear T HP HE
      go_enter Try.func16, Try.ntmps16
      go_wp2_with fail
      refine HT.out.mono ?_
      rintro e w' ⟨rfl, rfl⟩
      go_wp2_with fail
      go_ret2
      exact ⟨rfl, hB⟩
    · rw [if_neg h0] at T
      have HT := Lib.hid T
      clear T
      by_cases h6 : v % 4 = 0
      · have h0' : P = v := by rw [HP.out, if_neg (by omega)]
        have h0'' : E = 0 := by rw [HE.out, if_neg (by omega)]
        rw [decide_eq_true h6] at W
        subst h0' h0''
        clear HP HE
        go_enter Try.func16, Try.ntmps16
        go_wp2_with fail
        refine HT.out.mono ?_
        rintro e w' ⟨rfl, rfl⟩
        go_wp2_with fail
        refine (W.out _).mono ?_
        rintro e w' ⟨rfl, rfl⟩
        go_wp2_with fail
        go_ret2
        exact ⟨rfl, hB⟩
      · have h0' : P = 0 := by rw [HP.out, if_pos (by omega)]
        have h0'' : E = 5 := by rw [HE.out, if_pos ⟨rfl, .inr h6⟩]
        rw [decide_eq_false h6] at W
        subst h0' h0''
        clear HP HE
        go_enter Try.func16, Try.ntmps16
        go_wp2_with fail
        refine HT.out.mono ?_
        rintro e w' ⟨rfl, rfl⟩
        go_wp2_with fail
        refine (W.out _).mono ?_
        rintro e w' ⟨rfl, rfl⟩
        go_wp2_with fail
        go_ret2
        exact ⟨rfl, hB⟩

/-- The first car's size, or what is wrong with it. -/
def fcarE (t : List UInt8) : Nat := if cmE t ≠ 0 then cmE t else if (readCm t).pad = true ∧ cmN t < t.length then 5 else openE (t.take (cmN t))
def fcarN (t : List UInt8) : Nat := if fcarE t = 0 then cmN t else 0
set_option maxRecDepth 100000 in
set_option maxHeartbeats 1000000 in
theorem tr_first (A : Option Addr) (n c : Nat) (t : List UInt8) (w : World) (hs : Bs w A n c t) :
    Calls Try.prog 26 #[.slice A n c] w (Says w (.tuple #[.int .i64 (fcarN t), .int .i64 (fcarE t)])) := by
  have htl := hs.len
  have HC := Lib.hid (fun h => car_take (t := t) h)
  have HR := Lib.hid (fun W h => cm_read_any A n c t W h)
  have HO : Hid (cmE t = 0 → openE (t.take (cmN t)) = trE (readCm t).pad ((t.take (cmN t)).drop 4)) := Lib.hid (fun h => by
    obtain ⟨c1, c2, c3, c4, c5, c6⟩ := car_take h
    rw [(trE_open c1 (by rw [c2, c3, c6])).1, c2])
  have HE : Hid (fcarE t = if cmE t ≠ 0 then cmE t else if (readCm t).pad = true ∧ cmN t < n then 5 else openE (t.take (cmN t))) := Lib.hid (by unfold fcarE; rw [htl])
  have HN : Hid (fcarN t = if fcarE t = 0 then cmN t else 0) := Lib.hid rfl
  generalize fcarE t = E at *
  generalize fcarN t = F at *
  generalize cmN t = N at *
  generalize cmE t = e1 at *
  generalize readCm t = R at *
  obtain ⟨rp, rc, rt, rz⟩ := R
  dsimp only [cmW] at HR HC HE HO
  by_cases he1 : e1 = 0
  · subst he1
    obtain ⟨hc1, hc2, hc3, hc4, hc5, hc6⟩ := HC.out rfl
    have ho := HO.out rfl
    rw [ho] at HE
    subst hc3
    rw [htl] at hc5
    by_cases hbad : rp = true ∧ N < n
    · have hE : E = 5 := by rw [HE.out, if_neg (by omega), if_pos hbad]
      have hF : F = 0 := by rw [HN.out, if_neg (by omega)]
      obtain ⟨rfl, hlt⟩ := hbad
      subst hE hF
      have hg : (N : Int) < n := by omega
      clear HE HN HO HC ho
      go_enter Try.func26, Try.ntmps26
      go_wp2_with fail
      refine (HR.out _ hs).mono ?_
      rintro x w2 ⟨rfl, hb⟩
      have k1 := Box.new w2 [.bool true, .int .i64 rc, .int .i64 rt, .int .i64 (N : Int)] 25
      have f1 := k1.all4.1
      go_wp2_with fail
      go_ret2
      exact ⟨rfl, hb.alloc hb.size _⟩
    · have hE : E = trE rp ((t.take N).drop 4) := by rw [HE.out, if_neg (by omega), if_neg hbad]
      have hg : rp = true → ¬ (N : Int) < n := fun h hh => hbad ⟨h, by omega⟩
      have hnn : N ≤ n := by omega
      have HT := Lib.hid (fun (A1 : Option Addr) (c1 : Nat) (W : World) (h : Bs W A1 N c1 (t.take N)) => tr_trailOf rp rc rt (N : Int) A1 N c1 (t.take N) W h hc4)
      rw [← hE] at HT
      generalize trP rp ((t.take N).drop 4) = P at *
      clear HE HO HC ho hE hc1 hc2 hbad
      have HN2 := HN.out
      clear HN
      by_cases hE0 : E = 0
      · rw [if_pos hE0] at HN2
        rw [HN2]
        subst hE0
        clear HN2 F
        cases rp
        · clear hg
          go_enter Try.func26, Try.ntmps26
          go_wp2_with fail
          refine (HR.out _ hs).mono ?_
          rintro x w2 ⟨rfl, hb⟩
          have k1 := Box.new w2 [.bool false, .int .i64 rc, .int .i64 rt, .int .i64 (N : Int)] 25
          have hs3 := (hs.below hb).alloc (.cells #[.bool false, .int .i64 rc, .int .i64 rt, .int .i64 (N : Int)] 25)
          have hB3 := hb.alloc hb.size (.cells #[.bool false, .int .i64 rc, .int .i64 rt, .int .i64 (N : Int)] 25)
          have f1 := k1.all4.1
          obtain ⟨A1, c1, hsl, hY⟩ := hs3.slice_r Try.underlying22 byte_size (r := N) hnn
          have hsl2 := fun W => hsl W (N : Int) rfl
          clear hsl
          go_upto_region 6 with fail
          generalize (w2.alloc (.cells #[.bool false, .int .i64 rc, .int .i64 rt, .int .i64 (N : Int)] 25)) = w3 at *
          go_region_held3 (fun W => W.cell? ⟨w2.heap.size, 0, none⟩ = some (.bool false) ∧ W.cell? ⟨w2.heap.size, 1, none⟩ = some (.int .i64 rc) ∧ W.cell? ⟨w2.heap.size, 2, none⟩ = some (.int .i64 rt) ∧ W.cell? ⟨w2.heap.size, 3, none⟩ = some (.int .i64 (N : Int)))
            (go_keep)
            ((go_at_call 16; refine (HT.out A1 c1 _ hY.drew).mono ?_; rintro e w4 ⟨rfl, hb4⟩; have k4 := Box.call (w := w3.drew) k1 hb4; have f4 := k4.all4.1))
          all_goals
            have hB4 := hB3.drew.trans (hb4.mono (by first | exact hB3.size | simpa using hB3.size))
            go_wp2_with fail
            go_ret2
            exact ⟨rfl, hB4⟩
        · have hg2 := hg rfl
          clear hg
          go_enter Try.func26, Try.ntmps26
          go_wp2_with fail
          refine (HR.out _ hs).mono ?_
          rintro x w2 ⟨rfl, hb⟩
          have k1 := Box.new w2 [.bool true, .int .i64 rc, .int .i64 rt, .int .i64 (N : Int)] 25
          have hs3 := (hs.below hb).alloc (.cells #[.bool true, .int .i64 rc, .int .i64 rt, .int .i64 (N : Int)] 25)
          have hB3 := hb.alloc hb.size (.cells #[.bool true, .int .i64 rc, .int .i64 rt, .int .i64 (N : Int)] 25)
          have f1 := k1.all4.1
          obtain ⟨A1, c1, hsl, hY⟩ := hs3.slice_r Try.underlying22 byte_size (r := N) hnn
          have hsl2 := fun W => hsl W (N : Int) rfl
          clear hsl
          go_upto_region 6 with fail
          generalize (w2.alloc (.cells #[.bool true, .int .i64 rc, .int .i64 rt, .int .i64 (N : Int)] 25)) = w3 at *
          go_region_held3 (fun W => W.cell? ⟨w2.heap.size, 0, none⟩ = some (.bool true) ∧ W.cell? ⟨w2.heap.size, 1, none⟩ = some (.int .i64 rc) ∧ W.cell? ⟨w2.heap.size, 2, none⟩ = some (.int .i64 rt) ∧ W.cell? ⟨w2.heap.size, 3, none⟩ = some (.int .i64 (N : Int)))
            (go_keep)
            ((go_at_call 16; refine (HT.out A1 c1 _ hY.drew).mono ?_; rintro e w4 ⟨rfl, hb4⟩; have k4 := Box.call (w := w3.drew) k1 hb4; have f4 := k4.all4.1))
          all_goals
            have hB4 := hB3.drew.trans (hb4.mono (by first | exact hB3.size | simpa using hB3.size))
            go_wp2_with fail
            go_ret2
            exact ⟨rfl, hB4⟩
      · rw [if_neg hE0] at HN2
        rw [HN2]
        clear HN2 F
        have hne : ((E : Int) != 0) = true := by rw [bne_iff_ne]; omega
        cases rp
        · clear hg
          go_enter Try.func26, Try.ntmps26
          go_wp2_with fail
          refine (HR.out _ hs).mono ?_
          rintro x w2 ⟨rfl, hb⟩
          have k1 := Box.new w2 [.bool false, .int .i64 rc, .int .i64 rt, .int .i64 (N : Int)] 25
          have hs3 := (hs.below hb).alloc (.cells #[.bool false, .int .i64 rc, .int .i64 rt, .int .i64 (N : Int)] 25)
          have hB3 := hb.alloc hb.size (.cells #[.bool false, .int .i64 rc, .int .i64 rt, .int .i64 (N : Int)] 25)
          have f1 := k1.all4.1
          obtain ⟨A1, c1, hsl, hY⟩ := hs3.slice_r Try.underlying22 byte_size (r := N) hnn
          have hsl2 := fun W => hsl W (N : Int) rfl
          clear hsl
          go_upto_region 6 with fail
          generalize (w2.alloc (.cells #[.bool false, .int .i64 rc, .int .i64 rt, .int .i64 (N : Int)] 25)) = w3 at *
          go_region_held3 (fun W => W.cell? ⟨w2.heap.size, 0, none⟩ = some (.bool false) ∧ W.cell? ⟨w2.heap.size, 1, none⟩ = some (.int .i64 rc) ∧ W.cell? ⟨w2.heap.size, 2, none⟩ = some (.int .i64 rt) ∧ W.cell? ⟨w2.heap.size, 3, none⟩ = some (.int .i64 (N : Int)))
            (go_keep)
            ((go_at_call 16; refine (HT.out A1 c1 _ hY.drew).mono ?_; rintro e w4 ⟨rfl, hb4⟩; have k4 := Box.call (w := w3.drew) k1 hb4; have f4 := k4.all4.1))
          all_goals
            have hB4 := hB3.drew.trans (hb4.mono (by first | exact hB3.size | simpa using hB3.size))
            go_wp2_with fail
            go_ret2
            exact ⟨rfl, hB4⟩
        · have hg2 := hg rfl
          clear hg
          go_enter Try.func26, Try.ntmps26
          go_wp2_with fail
          refine (HR.out _ hs).mono ?_
          rintro x w2 ⟨rfl, hb⟩
          have k1 := Box.new w2 [.bool true, .int .i64 rc, .int .i64 rt, .int .i64 (N : Int)] 25
          have hs3 := (hs.below hb).alloc (.cells #[.bool true, .int .i64 rc, .int .i64 rt, .int .i64 (N : Int)] 25)
          have hB3 := hb.alloc hb.size (.cells #[.bool true, .int .i64 rc, .int .i64 rt, .int .i64 (N : Int)] 25)
          have f1 := k1.all4.1
          obtain ⟨A1, c1, hsl, hY⟩ := hs3.slice_r Try.underlying22 byte_size (r := N) hnn
          have hsl2 := fun W => hsl W (N : Int) rfl
          clear hsl
          go_upto_region 6 with fail
          generalize (w2.alloc (.cells #[.bool true, .int .i64 rc, .int .i64 rt, .int .i64 (N : Int)] 25)) = w3 at *
          go_region_held3 (fun W => W.cell? ⟨w2.heap.size, 0, none⟩ = some (.bool true) ∧ W.cell? ⟨w2.heap.size, 1, none⟩ = some (.int .i64 rc) ∧ W.cell? ⟨w2.heap.size, 2, none⟩ = some (.int .i64 rt) ∧ W.cell? ⟨w2.heap.size, 3, none⟩ = some (.int .i64 (N : Int)))
            (go_keep)
            ((go_at_call 16; refine (HT.out A1 c1 _ hY.drew).mono ?_; rintro e w4 ⟨rfl, hb4⟩; have k4 := Box.call (w := w3.drew) k1 hb4; have f4 := k4.all4.1))
          all_goals
            have hB4 := hB3.drew.trans (hb4.mono (by first | exact hB3.size | simpa using hB3.size))
            go_wp2_with fail
            go_ret2
            exact ⟨rfl, hB4⟩
  · have hE : E = e1 := by rw [HE.out, if_pos he1]
    have hF : F = 0 := by rw [HN.out, if_neg (by omega)]
    subst hE hF
    have hne : ((E : Int) != 0) = true := by rw [bne_iff_ne]; omega
    clear HE HN HO HC
    go_enter Try.func26, Try.ntmps26
    go_wp2_with fail
    refine (HR.out _ hs).mono ?_
    rintro x w2 ⟨rfl, hb⟩
    go_wp2_with fail
    go_ret2
    exact ⟨rfl, hb.alloc hb.size _⟩

end Go.Proofs.Ytkfinkmbdpdepaa

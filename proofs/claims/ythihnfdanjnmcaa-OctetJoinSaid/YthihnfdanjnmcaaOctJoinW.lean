/-
  The walk of the statement OctetJoin.
-/
import Derived.Test.YthihnfdanjnmcaaOctW
import Derived.Test.YthihnfdanjnmcaaReg
namespace Go.Proofs.Ythihnfdanjnmcaa
open Go.RowKit

theorem partE_one {l : Nat} {a n : Int} (h : n < 0 ∨ a < 0) : partE l a n = 1 := if_pos h
theorem partE_two {l : Nat} {a n : Int} (h : ¬ (n < 0 ∨ a < 0)) (h2 : (l : Int) < a + n) : partE l a n = 2 := by unfold partE; rw [if_neg h, if_pos h2]
theorem partE_none {l : Nat} {a n : Int} (h : ¬ (n < 0 ∨ a < 0)) (h2 : ¬ (l : Int) < a + n) : partE l a n = 0 := by unfold partE; rw [if_neg h, if_neg h2]
theorem partB_nil {s : List UInt8} {a n : Int} (h : partE s.length a n ≠ 0) : partB s a n = [] := if_neg h
theorem partB_yes {s : List UInt8} {a n : Nat} (h : a + n ≤ s.length) : partB s a n = (s.drop a).take n := by
  unfold partB; rw [if_pos (partE_none (by omega) (by omega)), Int.toNat_natCast, Int.toNat_natCast]

/-- Part, where it answers an error. -/
theorem part_no (A : Option Addr) (l c : Nat) (s : List UInt8) (a n : Int) (w : World) (hs : Bs w A l c s) (ha : (Lit.int .i64 a).wf = true) (hl : l ≤ 140737488355328) (err : Int) (he : partE s.length a n = err) (h0 : err ≠ 0) :
    Calls Try.prog 19 #[.slice A l c, .int .i64 a, .int .i64 n] w fun e w' => GivesBE w 5 [] err e w' := by
  have := part_any A l c s a n w hs ha hl
  rwa [partB_nil (by rw [he]; exact h0), he] at this

set_option maxHeartbeats 400000 in
theorem octetJoin_big (A : Option Addr) (l c : Nat) (a n i m : Int) (w : World) (hl : 3000 < l) (hm : l ≤ maxLen) :
    Calls Try.prog 6 #[.slice A l c, .int .i64 a, .int .i64 n, .int .i64 i, .int .i64 m] w fun e w' => e = .returned (.bool true) ∧ Below w.heap.size w w' := by
  unfold maxLen at hm
  go_enter Try.func6, Try.ntmps6
  go_wp2_with fail
  refine (awake_any _).mono ?_
  rintro e w1 ⟨rfl, hb1⟩
  go_wp2
  go_ret
  exact ⟨rfl, hb1⟩

set_option maxRecDepth 100000 in
set_option maxHeartbeats 400000 in
theorem octetJoin_none (A : Option Addr) (l c : Nat) (s : List UInt8) (a n i m : Int) (w : World) (hs : Bs w A l c s) (hl : l ≤ 3000) (ha : (Lit.int .i64 a).wf = true) (h : partE s.length a n ≠ 0) :
    Calls Try.prog 6 #[.slice A l c, .int .i64 a, .int .i64 n, .int .i64 i, .int .i64 m] w fun e w' => e = .returned (.bool true) ∧ Below w.heap.size w w' := by
  have hlen := hs.len
  have hcase : (partE s.length a n = 1 ∧ n < 0 ∧ 0 ≤ a) ∨ (partE s.length a n = 1 ∧ a < 0) ∨ (partE s.length a n = 2 ∧ 0 ≤ n ∧ 0 ≤ a) := by
    by_cases h1 : n < 0 ∨ a < 0
    · have := partE_one (l := s.length) h1
      omega
    · by_cases h2 : (s.length : Int) < a + n
      · have := partE_two h1 h2
        omega
      · exact absurd (partE_none h1 h2) h
  clear h hlen
  rcases hcase with ⟨he, h1, h2⟩ | ⟨he, h1⟩ | ⟨he, h1, h2⟩
  all_goals
    have hc := fun w hs => part_no A l c s a n w hs ha (by omega) _ he (by decide)
    have Hc := Lib.hid hc
    clear hc he
    go_enter Try.func6, Try.ntmps6
    go_wp2_with fail
    refine (awake_any _).mono ?_
    rintro e w1 ⟨rfl, hb1⟩
    go_wp2_with fail
    refine (Hc.out _ (hs.below hb1)).mono ?_
    rintro e w2 ⟨A2, c2, rfl, hown2, hb2⟩
    go_wp2
    go_ret
    exact ⟨by simp <;> omega, hb1.trans (hb2.mono hb1.size)⟩

set_option maxRecDepth 100000 in
set_option maxHeartbeats 1000000 in
theorem octetJoin_main (A : Option Addr) (l c : Nat) (s : List UInt8) (a n : Nat) (i m : Int) (w : World) (hs : Bs w A l c s) (hl : l ≤ 3000) (h3 : a + n ≤ l) (hi : (Lit.int .i64 i).wf = true) :
    Calls Try.prog 6 #[.slice A l c, .int .i64 a, .int .i64 n, .int .i64 i, .int .i64 m] w fun e w' => e = .returned (.bool true) ∧ Below w.heap.size w w' := by
  have hlen := hs.len
  obtain ⟨x, hx⟩ : ∃ x, x = (s.drop a).take n := ⟨_, rfl⟩
  obtain ⟨y, hy⟩ : ∃ y, y = s.take a := ⟨_, rfl⟩
  obtain ⟨z, hz⟩ : ∃ z, z = s.drop (a + n) := ⟨_, rfl⟩
  have hxl : x.length = n := by rw [hx]; simp; omega
  have hcat : y ++ (x ++ z) = s := by
    rw [hx, hy, hz, ← List.drop_drop, List.take_append_drop, List.take_append_drop]
  have c1 := fun w hs => part_at A l c s a n a n w hs rfl rfl h3 (by omega) x hx.symm
  have c2 := fun w hs => part_at A l c s 0 a 0 a w hs rfl rfl (by omega) (by omega) y (by rw [hy, List.drop_zero])
  have c3 := fun w hs => part_at A l c s (a + n) (l - (a + n)) (a + n) (l - a - n) w hs (by omega) (by omega) (by omega) (by omega) z (by rw [hz, List.take_of_length_le (by simp; omega)])
  have C1 := Lib.hid c1
  have C2 := Lib.hid c2
  have C3 := Lib.hid c3
  have Hx := Lib.hid hx
  have Hcat := Lib.hid hcat
  have Hxl := Lib.hid hxl
  clear c1 c2 c3 hx hy hz hcat hxl hlen
  go_enter Try.func6, Try.ntmps6
  go_wp2_with fail
  refine (awake_any _).mono ?_
  rintro e w1 ⟨rfl, hb1⟩
  have hs1 := hs.below hb1
  go_wp2_with fail
  refine (C1.out _ hs1).mono ?_
  rintro e w2 ⟨A2, c2, rfl, hown2, hb2⟩
  have hs2 := hs1.below hb2
  have hB2 := hb1.trans (hb2.mono hb1.size)
  rw [Hxl.out] at hown2 ⊢
  go_wp2_with fail
  refine (C2.out _ hs2).mono ?_
  rintro e w3 ⟨A3, c3, rfl, hown3, hb3⟩
  have hs3 := hs2.below hb3
  have hown2' := hown2.below hb3
  have hB3 := hB2.trans (hb3.mono hB2.size)
  clear hs1 hs2 hb1 hb2 hb3 hown2 hB2
  go_wp2_with fail
  refine (C3.out _ hs3).mono ?_
  rintro e w4 ⟨A4, c4, rfl, hown4, hb4⟩
  have hs4 := hs3.below hb4
  have hown2 := hown2'.below hb4
  have hown3' := hown3.below hb4
  have hB4 := hB3.trans (hb4.mono hB3.size)
  clear hs3 hB3 hown3 hown2' hb4
  have hp : ∀ p ∈ [⟨A3, y.length, c3, y⟩, ⟨A2, n, c2, x⟩, (⟨A4, z.length, c4, z⟩ : Part)], Bs w4.drew p.A p.n p.c p.s := by
    intro p hp
    simp only [List.mem_cons, List.not_mem_nil, or_false] at hp
    rcases hp with rfl | rfl | rfl
    · exact hown3'.bs
    · exact hown2.bs
    · exact hown4.bs
  have hsl := hs4.len
  have hj : Calls Try.prog 18 #[.slice (some ⟨w4.heap.size, 0, none⟩) 3 3] (w4.alloc (.cells #[.slice A3 y.length c3, .slice A2 n c2, .slice A4 z.length c4] 22)).drew (fun e w' => GivesB w4.drew 5 s e w') := join_lit [⟨A3, y.length, c3, y⟩, ⟨A2, n, c2, x⟩, ⟨A4, z.length, c4, z⟩] s w4.drew hp (by rw [← Hcat.out]; simp [joined]) (by simp [maxLen]) (by omega)
  have Hj := Lib.hid hj
  have s1 : (convert 22 9 (.slice A l c)).run Try.prog w4 = .ok (.string ⟨s.toArray⟩) w4 := str_of hs4
  have s2 : (convert 22 9 (.slice A l c)).run Try.prog w4.drew = .ok (.string ⟨s.toArray⟩) w4.drew := str_of (w := w4.drew) hs4
  clear hp hj hsl
  go_upto_region 10 with fail
  go_cut [91] (fun v W => v = .bool false ∧ Below w.heap.size w W ∧ Bs W A l c s ∧ Bs W A2 n c2 x)
  case first =>
    refine wp_region_held_drew (S := (fun W => (convert 22 9 (.slice A l c)).run Try.prog W = .ok (.string ⟨s.toArray⟩) W)) (by kernel_rfl) (str_of hs4.drew) (fun hHeld => ?_)
    refine wpAnyH_take (i := 0) (v := ?vJ0) rfl (by kernel_rfl) (by kernel_rfl) (by kernel_rfl) (fun _ _ _ h => h) (Or.inl ⟨by rfl, ?hJ0⟩) (by assumption) ?rJ0
    case hJ0 => (intro w hSw; (try dsimp only at hSw); go_simp; try with_reducible rfl)
    change wpAnyH _ _ _ _ _ _ _ (Act.put _ (some 69) _) _
    simp only [Act.put, List.setIfInBounds_toArray, List.set_cons_zero, List.set_cons_succ]
    refine wpAnyH_take (i := 1) (v := ?vJ1) rfl (by kernel_rfl) (by kernel_rfl) (by kernel_rfl) (fun _ _ _ h => h) (Or.inl ⟨by rfl, ?hJ1⟩) (by assumption) ?rJ1
    case hJ1 => (intro w hSw; (try dsimp only at hSw); go_simp; try with_reducible rfl)
    change wpAnyH _ _ _ _ _ _ _ (Act.put _ (some 70) _) _
    simp only [Act.put, List.setIfInBounds_toArray, List.set_cons_zero, List.set_cons_succ]
    refine wpAnyH_take (i := 2) (v := ?vJ2) rfl (by kernel_rfl) (by kernel_rfl) (by kernel_rfl) (fun _ _ _ h => h) (Or.inl ⟨by rfl, ?hJ2⟩) (by assumption) ?rJ2
    case hJ2 => (intro w hSw; (try dsimp only at hSw); go_simp; try with_reducible rfl)
    change wpAnyH _ _ _ _ _ _ _ (Act.put _ (some 71) _) _
    simp only [Act.put, List.setIfInBounds_toArray, List.set_cons_zero, List.set_cons_succ]
    refine wpAnyH_take (i := 3) (v := ?vJ3) rfl (by kernel_rfl) (by kernel_rfl) (by kernel_rfl) (fun _ _ _ h => h) (Or.inl ⟨by rfl, ?hJ3⟩) (by assumption) ?rJ3
    case hJ3 => (intro w hSw; (try dsimp only at hSw); go_simp; try with_reducible rfl)
    change wpAnyH _ _ _ _ _ _ _ (Act.put _ (some 72) _) _
    simp only [Act.put, List.setIfInBounds_toArray, List.set_cons_zero, List.set_cons_succ]
    refine wpAnyH_take (i := 4) (v := ?vJ4) rfl (by kernel_rfl) (by kernel_rfl) (by kernel_rfl) (fun _ _ _ h => h) (Or.inl ⟨by rfl, ?hJ4⟩) (by assumption) ?rJ4
    case hJ4 => (intro w hSw; (try dsimp only at hSw); go_simp; try with_reducible rfl)
    change wpAnyH _ _ _ _ _ _ _ (Act.put _ (some 73) _) _
    simp only [Act.put, List.setIfInBounds_toArray, List.set_cons_zero, List.set_cons_succ]
    refine wpAnyH_take (i := 5) (v := ?vJ5) rfl (by kernel_rfl) (by kernel_rfl) (by kernel_rfl) (fun _ _ _ h => h) (Or.inl ⟨by rfl, ?hJ5⟩) (by assumption) ?rJ5
    case hJ5 => (intro w hSw; (try dsimp only at hSw); go_simp; try with_reducible rfl)
    change wpAnyH _ _ _ _ _ _ _ (Act.put _ (some 74) _) _
    simp only [Act.put, List.setIfInBounds_toArray, List.set_cons_zero, List.set_cons_succ]
    refine wpAnyH_take (i := 6) (v := ?vJ6) rfl (by kernel_rfl) (by kernel_rfl) (by kernel_rfl) (fun _ _ _ h => h) (Or.inl ⟨by rfl, ?hJ6⟩) (by assumption) ?rJ6
    case hJ6 => (intro w hSw; (try dsimp only at hSw); go_simp; try with_reducible rfl)
    change wpAnyH _ _ _ _ _ _ _ (Act.put _ (some 75) _) _
    simp only [Act.put, List.setIfInBounds_toArray, List.set_cons_zero, List.set_cons_succ]
    refine wpAnyH_take (i := 7) (v := ?vJ7) rfl (by kernel_rfl) (by kernel_rfl) (by kernel_rfl) (fun _ _ _ h => h) (Or.inl ⟨by rfl, ?hJ7⟩) (by assumption) ?rJ7
    case hJ7 => (intro w hSw; (try dsimp only at hSw); go_simp; try with_reducible rfl)
    change wpAnyH _ _ _ _ _ _ _ (Act.put _ (some 76) _) _
    simp only [Act.put, List.setIfInBounds_toArray, List.set_cons_zero, List.set_cons_succ]
    refine wpAnyH_take (i := 8) (v := ?vJ8) rfl (by kernel_rfl) (by kernel_rfl) (by kernel_rfl) (fun _ _ _ h => h) (Or.inl ⟨by rfl, ?hJ8⟩) (by assumption) ?rJ8
    case hJ8 => (intro w hSw; (try dsimp only at hSw); go_simp; try with_reducible rfl)
    change wpAnyH _ _ _ _ _ _ _ (Act.put _ (some 77) _) _
    simp only [Act.put, List.setIfInBounds_toArray, List.set_cons_zero, List.set_cons_succ]
    refine wpAnyH_take (i := 9) (v := ?vJ9) rfl (by kernel_rfl) (by kernel_rfl) (by kernel_rfl) (fun _ _ _ h => h) (Or.inl ⟨by rfl, ?hJ9⟩) (by assumption) ?rJ9
    case hJ9 => (intro w hSw; (try dsimp only at hSw); go_simp; try with_reducible rfl)
    change wpAnyH _ _ _ _ _ _ _ (Act.put _ (some 78) _) _
    simp only [Act.put, List.setIfInBounds_toArray, List.set_cons_zero, List.set_cons_succ]
    refine wpAnyH_take (i := 10) (v := ?vJ10) rfl (by kernel_rfl) (by kernel_rfl) (by kernel_rfl) (fun _ _ _ h => h) (Or.inl ⟨by rfl, ?hJ10⟩) (by assumption) ?rJ10
    case hJ10 => (intro w hSw; (try dsimp only at hSw); go_simp; try with_reducible rfl)
    change wpAnyH _ _ _ _ _ _ _ (Act.put _ (some 79) _) _
    simp only [Act.put, List.setIfInBounds_toArray, List.set_cons_zero, List.set_cons_succ]
    refine wpAnyH_take (i := 11) (v := ?vJ11) rfl (by kernel_rfl) (by kernel_rfl) (by kernel_rfl) (fun _ _ _ h => h) (Or.inl ⟨by rfl, ?hJ11⟩) (by assumption) ?rJ11
    case hJ11 => (intro w hSw; (try dsimp only at hSw); go_simp; try with_reducible rfl)
    change wpAnyH _ _ _ _ _ _ _ (Act.put _ (some 80) _) _
    simp only [Act.put, List.setIfInBounds_toArray, List.set_cons_zero, List.set_cons_succ]
    refine wpAnyH_take (i := 12) (v := ?vJ12) rfl (by kernel_rfl) (by kernel_rfl) (by kernel_rfl) (fun _ _ _ h => h) (Or.inl ⟨by rfl, ?hJ12⟩) (by assumption) ?rJ12
    case hJ12 => (intro w hSw; (try dsimp only at hSw); go_simp; try with_reducible rfl)
    change wpAnyH _ _ _ _ _ _ _ (Act.put _ (some 81) _) _
    simp only [Act.put, List.setIfInBounds_toArray, List.set_cons_zero, List.set_cons_succ]
    refine wpAnyH_take (i := 13) (v := ?vJ13) rfl (by kernel_rfl) (by kernel_rfl) (by kernel_rfl) (fun _ _ _ h => h) (Or.inl ⟨by rfl, ?hJ13⟩) (by assumption) ?rJ13
    case hJ13 => (intro w hSw; (try dsimp only at hSw); go_simp; try with_reducible rfl)
    change wpAnyH _ _ _ _ _ _ _ (Act.put _ (some 82) _) _
    simp only [Act.put, List.setIfInBounds_toArray, List.set_cons_zero, List.set_cons_succ]
    refine wpAnyH_take (i := 14) (v := ?vJ14) rfl (by kernel_rfl) (by kernel_rfl) (by kernel_rfl) (fun _ _ _ h => h) (Or.inl ⟨by rfl, ?hJ14⟩) (by assumption) ?rJ14
    case hJ14 => (intro w hSw; (try dsimp only at hSw); go_simp; try with_reducible rfl)
    change wpAnyH _ _ _ _ _ _ _ (Act.put _ (some 83) _) _
    simp only [Act.put, List.setIfInBounds_toArray, List.set_cons_zero, List.set_cons_succ]
    refine wpAnyH_take (i := 15) (v := ?vJ15) rfl (by kernel_rfl) (by kernel_rfl) (by kernel_rfl) (fun _ _ _ h => h) (Or.inl ⟨by rfl, ?hJ15⟩) (by assumption) ?rJ15
    case hJ15 => (intro w hSw; (try dsimp only at hSw); go_simp; try with_reducible rfl)
    change wpAnyH _ _ _ _ _ _ _ (Act.put _ (some 84) _) _
    simp only [Act.put, List.setIfInBounds_toArray, List.set_cons_zero, List.set_cons_succ]
    refine wpAnyH_take (i := 19) (v := ?vJ19) rfl (by kernel_rfl) (by kernel_rfl) (by kernel_rfl) (fun _ _ _ h => h) (Or.inl ⟨by rfl, ?hJ19⟩) (by assumption) ?rJ19
    case hJ19 => (intro w hSw; (try dsimp only at hSw); go_simp; try with_reducible rfl)
    change wpAnyH _ _ _ _ _ _ _ (Act.put _ (some 88) _) _
    simp only [Act.put, List.setIfInBounds_toArray, List.set_cons_zero, List.set_cons_succ]
    refine wpAnyH_take (i := 20) (v := ?vJ20) rfl (by kernel_rfl) (by kernel_rfl) (by kernel_rfl) (fun _ _ _ h => h) (Or.inl ⟨by rfl, ?hJ20⟩) (by assumption) ?rJ20
    case hJ20 => (intro w hSw; (try dsimp only at hSw); go_simp; try with_reducible rfl)
    change wpAnyH _ _ _ _ _ _ _ (Act.put _ (some 89) _) _
    simp only [Act.put, List.setIfInBounds_toArray, List.set_cons_zero, List.set_cons_succ]
    refine wpAnyH_ready (rs := [16]) (by kernel_rfl) (by simp) ?_
    refine AllReadyH.cons rfl (fun K hK => ?_) AllReadyH.nil
    go_simp
    refine hK.out _ _ ?_ (fun hHeld => ?_)
    · exact str_of (hs4.alloc _).drew
    clear hK K
    try simp only [Act.put, List.setIfInBounds_toArray, List.set_cons_zero, List.set_cons_succ]
    refine wpAnyH_ready (rs := [17]) (by kernel_rfl) (by simp) ?_
    refine AllReadyH.cons rfl (fun K hK => ?_) AllReadyH.nil
    go_simp
    refine Hj.out.mono ?_
    rintro e w5 ⟨A5, c5, rfl, hown5, hb5⟩
    go_wp2_with fail
    refine hK.out _ _ ?_ (fun hHeld => ?_)
    · exact str_of (hs4.drew.below hb5)
    clear hK K
    try simp only [Act.put, List.setIfInBounds_toArray, List.set_cons_zero, List.set_cons_succ]
    have hHeld2 : (fun W => (convert 22 9 (.slice A l c)).run Try.prog W = .ok (.string ⟨s.toArray⟩) W ∧ (convert 22 9 (.slice A5 s.length c5)).run Try.prog W = .ok (.string ⟨s.toArray⟩) W) w5 := ⟨str_of (hs4.drew.below hb5), str_of hown5.bs⟩
    refine wpAnyH_mono (S2 := (fun W => (convert 22 9 (.slice A l c)).run Try.prog W = .ok (.string ⟨s.toArray⟩) W ∧ (convert 22 9 (.slice A5 s.length c5)).run Try.prog W = .ok (.string ⟨s.toArray⟩) W)) (fun _ h => h.1) ?_
    refine wpAnyH_take (i := 18) (v := ?vJ18) rfl (by kernel_rfl) (by kernel_rfl) (by kernel_rfl) (fun _ _ _ h => h) (Or.inl ⟨by rfl, ?hJ18⟩) (by assumption) ?rJ18
    case hJ18 => (intro w hSw; (try dsimp only at hSw); go_simp; try with_reducible rfl)
    change wpAnyH _ _ _ _ _ _ _ (Act.put _ (some 87) _) _
    simp only [Act.put, List.setIfInBounds_toArray, List.set_cons_zero, List.set_cons_succ]
    refine wpAnyH_take (i := 21) (v := ?vJ21) rfl (by kernel_rfl) (by kernel_rfl) (by kernel_rfl) (fun _ _ _ h => h) (Or.inl ⟨by rfl, ?hJ21⟩) (by assumption) ?rJ21
    case hJ21 => (intro w hSw; (try dsimp only at hSw); go_simp; try with_reducible rfl)
    change wpAnyH _ _ _ _ _ _ _ (Act.put _ (some 90) _) _
    simp only [Act.put, List.setIfInBounds_toArray, List.set_cons_zero, List.set_cons_succ]
    refine wpAnyH_take (i := 22) (v := ?vJ22) rfl (by kernel_rfl) (by kernel_rfl) (by kernel_rfl) (fun _ _ _ h => h) (Or.inl ⟨by rfl, ?hJ22⟩) (by assumption) ?rJ22
    case hJ22 => (intro w hSw; (try dsimp only at hSw); go_simp; try with_reducible rfl)
    change wpAnyH _ _ _ _ _ _ _ (Act.put _ (some 91) _) _
    simp only [Act.put, List.setIfInBounds_toArray, List.set_cons_zero, List.set_cons_succ]
    refine wpAnyH_done (by kernel_rfl) ?_ _
    go_wp2_with fail
    go_meet
    exact ⟨rfl, hB4.trans ((Below.refl _ _).drew.trans (hb5.mono hB4.size)), hs4.drew.below hb5, hown2.bs.drew.below hb5⟩
  case rest =>
    obtain ⟨rfl, hB5, hs5, hx5⟩ := hcut
    have hxl := hx5.len
    by_cases hE : partE x.length i m = 0
    · have hh : 0 ≤ i ∧ 0 ≤ m ∧ i + m ≤ n := by
        unfold partE at hE
        split at hE
        · cases hE
        · split at hE
          · cases hE
          · omega
      obtain ⟨i, rfl⟩ := Int.eq_ofNat_of_zero_le hh.1
      obtain ⟨m, rfl⟩ := Int.eq_ofNat_of_zero_le hh.2.1
      obtain ⟨y, hy⟩ : ∃ y, y = (x.drop i).take m := ⟨_, rfl⟩
      have hy2 : (s.drop (a + i)).take m = y := by
        rw [hy, Hx.out, List.drop_take, List.take_take, List.drop_drop, Nat.min_eq_left (by omega)]
      have d1 := fun w hs => part_at A2 n c2 x i m i m w hs rfl rfl (by omega) (by omega) y hy.symm
      have d2 := fun w hs => part_at A l c s (a + i) m (a + i) m w hs (by omega) rfl (by omega) (by omega) y hy2
      have D1 := Lib.hid d1
      have D2 := Lib.hid d2
      have hia : (i : Int) ≤ 3000 := by omega
      clear d1 d2 hy hy2 hE hh
      go_wp2_with fail
      refine (D1.out _ hx5).mono ?_
      rintro e w6 ⟨A6, c6, rfl, hown6, hb6⟩
      have hs6 := hs5.below hb6
      have hB6 := hB5.trans (hb6.mono hB5.size)
      go_wp2_with fail
      refine (D2.out _ hs6).mono ?_
      rintro e w7 ⟨A7, c7, rfl, hown7, hb7⟩
      have t6 := str_of (hown6.below hb7).bs
      have t7 := str_of hown7.bs
      have hB7 := hB6.trans (hb7.mono hB6.size)
      go_wp2
      go_ret
      exact ⟨rfl, hB7⟩
    · have hz : (partE x.length i m != 0) = true := by rw [bne_iff_ne]; exact hE
      have d1 := fun w hs => part_no A2 n c2 x i m w hs hi (by omega) _ rfl hE
      generalize partE x.length i m = q at *
      have D1 := Lib.hid d1
      clear d1 hE
      go_wp2_with fail
      refine (D1.out _ hx5).mono ?_
      rintro e w6 ⟨A6, c6, rfl, hown6, hb6⟩
      go_wp2
      go_ret
      exact ⟨rfl, hB5.trans (hb6.mono hB5.size)⟩

theorem octetJoin_all (A : Option Addr) (l c : Nat) (s : List UInt8) (a n i m : Int) (w : World) (hs : Bs w A l c s) (ha : (Lit.int .i64 a).wf = true) (hi : (Lit.int .i64 i).wf = true) :
    Calls Try.prog 6 #[.slice A l c, .int .i64 a, .int .i64 n, .int .i64 i, .int .i64 m] w fun e w' => e = .returned (.bool true) ∧ Below w.heap.size w w' := by
  have hlen := hs.len
  have hle := hs.le
  have hcap := hs.cap
  by_cases hl : 3000 < l
  · exact octetJoin_big A l c a n i m w hl (by omega)
  · by_cases h : partE s.length a n = 0
    · have hh : 0 ≤ a ∧ 0 ≤ n ∧ a + n ≤ l := by
        unfold partE at h
        split at h
        · cases h
        · split at h
          · cases h
          · omega
      obtain ⟨a, rfl⟩ := Int.eq_ofNat_of_zero_le hh.1
      obtain ⟨n, rfl⟩ := Int.eq_ofNat_of_zero_le hh.2.1
      exact octetJoin_main A l c s a n i m w hs (by omega) (by omega) hi
    · exact octetJoin_none A l c s a n i m w hs (by omega) ha h

end Go.Proofs.Ythihnfdanjnmcaa

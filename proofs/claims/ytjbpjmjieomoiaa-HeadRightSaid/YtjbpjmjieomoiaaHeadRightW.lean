/-
  The walk of the statement HeadRight, under the contracts of package head's calls.
-/
import Derived.Test.YtjbpjmjieomoiaaHeadK
import Derived.Test.YtjbpjmjieomoiaaReg
namespace Go.Proofs.Ytjbpjmjieomoiaa
open Go.RowKit

set_option maxRecDepth 100000 in
set_option maxHeartbeats 400000 in
theorem headRight_big (K : HeadCalls) (p e m : Bool) (t : Int) (q ti ss : Nat) (A : Option Addr) (n c : Nat) (B : Option Addr) (lb cb : Nat) (w : World) (hn : n ≤ maxLen) (hl : lb ≤ maxLen) (h : 3000 < lb ∨ 99 < n) :
    Calls Try.prog 3 #[.agg #[.bool p, .bool e, .bool m, .int .i64 t, .int .u16 q, .int .u32 ti, .int .u32 ss, .slice A n c], .slice B lb cb] w fun e w' => e = .returned (.bool true) ∧ Below w.heap.size w w' := by
  unfold maxLen at hn hl
  rcases (show 3000 < (lb : Int) ∨ ((lb : Int) ≤ 3000 ∧ 99 < (n : Int)) by omega) with h | ⟨h0, h⟩
  all_goals
    go_enter Try.func3, Try.ntmps3
    go_wp2_with fail
    refine (awake_any K _).mono ?_
    rintro e w1 ⟨rfl, hb⟩
    have k1 := (Box.new w [.bool p, .bool e, .bool m, .int .i64 t, .int .u16 q, .int .u32 ti, .int .u32 ss, .slice A n c] 26).call hb
    have hB := (below1 w (.cells #[.bool p, .bool e, .bool m, .int .i64 t, .int .u16 q, .int .u32 ti, .int .u32 ss, .slice A n c] 26)).trans (hb.mono (by simp))
    have fk1 := k1.eight.1
    go_wp2_with fail
    go_ret
    exact ⟨rfl, hB⟩

set_option maxRecDepth 100000 in
set_option maxHeartbeats 4000000 in
theorem headRight_main (K : HeadCalls) (p e m : Bool) (t : Int) (q ti ss : Nat) (A : Option Addr) (n c : Nat) (l : List Nat) (B : Option Addr) (lb cb : Nat) (s : List UInt8) (w : World) (hl : Us w A n c l) (hs : Bs w B lb cb s) (hf : fitsH ⟨p, e, m, t, q, ti, ss, l⟩) (ht : (Lit.int .i64 t).wf = true) (hn : n ≤ 99) (hlb : lb ≤ 3000) :
    Calls Try.prog 3 #[.agg #[.bool p, .bool e, .bool m, .int .i64 t, .int .u16 q, .int .u32 ti, .int .u32 ss, .slice A n c], .slice B lb cb] w fun e w' => e = .returned (.bool true) ∧ Below w.heap.size w w' := by
  have hln := hl.len
  have R1 := Lib.hid (fun W => rhright_any p e m t q ti ss A n c l W hln (by omega))
  have R2 := Lib.hid (fun W hl => K.right p e m t q ti ss A n c l W hl (by omega) hf ht)
  have W1 := Lib.hid (fun W hl => K.write p e m t q ti ss A n c l W hl (by omega) hf ht)
  have W2 := fun W hl hr => rhwrite_any p e m t q ti ss A n c l W hl hr hf
  have Z1 := Lib.hid (fun W hl => K.size p e m t q ti ss A n c l W hl (by omega) hf ht)
  have D1 := Lib.hid (fun W hs => K.read B lb cb s W hs (by omega))
  have D2 := Lib.hid (fun W hs => rhread_any B lb cb s W hs (by omega))
  have hX : (rightH ⟨p, e, m, t, q, ti, ss, l⟩ = true → writeH ⟨p, e, m, t, q, ti, ss, l⟩ = headB ⟨p, e, m, t, q, ti, ss, l⟩ ∧ writeE ⟨p, e, m, t, q, ti, ss, l⟩ = 0 ∧ sizeH ⟨p, e, m, t, q, ti, ss, l⟩ = ((headB ⟨p, e, m, t, q, ti, ss, l⟩).length : Int)) ∧ (rightH ⟨p, e, m, t, q, ti, ss, l⟩ = false → writeH ⟨p, e, m, t, q, ti, ss, l⟩ = [] ∧ writeE ⟨p, e, m, t, q, ti, ss, l⟩ = 1 ∧ sizeH ⟨p, e, m, t, q, ti, ss, l⟩ = 0) := by
    constructor
    · intro h
      refine ⟨if_pos h, if_pos h, ?_⟩
      unfold sizeH
      rw [if_pos h, headB_length]
      simp
    · intro h
      refine ⟨if_neg (by rw [h]; decide), if_neg (by rw [h]; decide), if_neg (by rw [h]; decide)⟩
  have HX := Lib.hid hX
  clear hX
  have HW2 := Lib.hid W2
  clear W2
  have Hhl := Lib.hid hln
  clear hln
  generalize rightH ⟨p, e, m, t, q, ti, ss, l⟩ = r at *
  generalize writeH ⟨p, e, m, t, q, ti, ss, l⟩ = X at *
  generalize writeE ⟨p, e, m, t, q, ti, ss, l⟩ = xe at *
  generalize sizeH ⟨p, e, m, t, q, ti, ss, l⟩ = xz at *
  generalize headB ⟨p, e, m, t, q, ti, ss, l⟩ = Y at *
  have hzl := hErr_cases s
  generalize readH s = hd at *
  generalize readN s = hn2 at *
  generalize hErr s = he at *
  obtain ⟨rp, re, rm, rt, rq, rti, rss, rl⟩ := hd
  go_enter Try.func3, Try.ntmps3
  go_wp2_with fail
  refine (awake_any K _).mono ?_
  rintro e' w1 ⟨rfl, hb⟩
  have k1 := (Box.new w [.bool p, .bool e, .bool m, .int .i64 t, .int .u16 q, .int .u32 ti, .int .u32 ss, .slice A n c] 26).call hb
  have hB := (below1 w (.cells #[.bool p, .bool e, .bool m, .int .i64 t, .int .u16 q, .int .u32 ti, .int .u32 ss, .slice A n c] 26)).trans (hb.mono (by simp))
  replace hl := (hl.alloc (.cells #[.bool p, .bool e, .bool m, .int .i64 t, .int .u16 q, .int .u32 ti, .int .u32 ss, .slice A n c] 26)).below hb
  replace hs := (hs.alloc (.cells #[.bool p, .bool e, .bool m, .int .i64 t, .int .u16 q, .int .u32 ti, .int .u32 ss, .slice A n c] 26)).below hb
  clear hb
  have fk1 := k1.eight.1
  go_wp2_with fail
  refine (R1.out _).mono ?_
  rintro e w2 ⟨rfl, hb⟩
  clear fk1
  replace hl := hl.below hb
  replace hs := hs.below hb
  replace k1 := k1.call hb
  replace hB := hB.trans (hb.mono hB.size)
  clear hb
  have fk1 := k1.eight.1
  go_wp2_with fail
  refine (W1.out _ hl).mono ?_
  rintro e w3 ⟨A3, c3, rfl, hx, hb⟩
  clear fk1
  replace hl := hl.below hb
  replace hs := hs.below hb
  replace k1 := k1.call hb
  replace hB := hB.trans (hb.mono hB.size)
  clear hb
  have fk1 := k1.eight.1
  go_upto_if 32 with fail
  go_cut [] (fun W => Below w3.heap.size w3 W)
  case first =>
    cases r
    · obtain ⟨rfl, rfl, rfl⟩ := HX.out.2 rfl
      go_wp2_with fail
      refine (Z1.out _ hl).mono ?_
      rintro e' w4 ⟨rfl, hb⟩
      clear fk1
      go_wp2_with fail
      go_meet
      exact hb
    · obtain ⟨rfl, rfl, rfl⟩ := HX.out.1 rfl
      go_upto_region 8 with fail
      refine wp_region_held_drew (S := (fun W => (convert 27 9 (.slice A3 X.length c3)).run Try.prog W = .ok (.string ⟨X.toArray⟩) W ∧ W.cell? ⟨w.heap.size, 0, none⟩ = some (.bool p) ∧ W.cell? ⟨w.heap.size, 1, none⟩ = some (.bool e) ∧ W.cell? ⟨w.heap.size, 2, none⟩ = some (.bool m) ∧ W.cell? ⟨w.heap.size, 3, none⟩ = some (.int .i64 t) ∧ W.cell? ⟨w.heap.size, 4, none⟩ = some (.int .u16 q) ∧ W.cell? ⟨w.heap.size, 5, none⟩ = some (.int .u32 ti) ∧ W.cell? ⟨w.heap.size, 6, none⟩ = some (.int .u32 ss) ∧ W.cell? ⟨w.heap.size, 7, none⟩ = some (.slice A n c))) (by kernel_rfl) ⟨str_of hx.drew, fk1⟩ (fun hHeld => ?_)
      clear fk1
      refine wpAnyH_take (i := 0) (v := ?vR0) rfl (by kernel_rfl) (by kernel_rfl) (by kernel_rfl) (fun _ _ _ h => h) (Or.inl ⟨by rfl, ?hR0⟩) (by assumption) ?rR0
      case hR0 => (intro w hSw; (try dsimp only at hSw); go_simp; try with_reducible rfl)
      change wpAnyH _ _ _ _ _ _ _ (Act.put _ (some 33) _) _
      simp only [Act.put, List.setIfInBounds_toArray, List.set_cons_zero, List.set_cons_succ]
      refine wpAnyH_take (i := 1) (v := ?vR1) rfl (by kernel_rfl) (by kernel_rfl) (by kernel_rfl) (fun _ _ _ h => h) (Or.inl ⟨by rfl, ?hR1⟩) (by assumption) ?rR1
      case hR1 => (intro w hSw; (try dsimp only at hSw); go_simp; try with_reducible rfl)
      change wpAnyH _ _ _ _ _ _ _ (Act.put _ (some 34) _) _
      simp only [Act.put, List.setIfInBounds_toArray, List.set_cons_zero, List.set_cons_succ]
      refine wpAnyH_take (i := 2) (v := ?vR2) rfl (by kernel_rfl) (by kernel_rfl) (by kernel_rfl) (fun _ _ _ h => h) (Or.inl ⟨by rfl, ?hR2⟩) (by assumption) ?rR2
      case hR2 => (intro w hSw; (try dsimp only at hSw); go_simp; try with_reducible rfl)
      change wpAnyH _ _ _ _ _ _ _ (Act.put _ (some 35) _) _
      simp only [Act.put, List.setIfInBounds_toArray, List.set_cons_zero, List.set_cons_succ]
      refine wpAnyH_take (i := 3) (v := ?vR3) rfl (by kernel_rfl) (by kernel_rfl) (by kernel_rfl) (fun _ _ _ h => h) (Or.inl ⟨by rfl, ?hR3⟩) (by assumption) ?rR3
      case hR3 => (intro w hSw; (try dsimp only at hSw); go_simp; try with_reducible rfl)
      change wpAnyH _ _ _ _ _ _ _ (Act.put _ (some 36) _) _
      simp only [Act.put, List.setIfInBounds_toArray, List.set_cons_zero, List.set_cons_succ]
      refine wpAnyH_take (i := 4) (v := ?vR4) rfl (by kernel_rfl) (by kernel_rfl) (by kernel_rfl) (fun _ _ _ h => h) (Or.inl ⟨by rfl, ?hR4⟩) (by assumption) ?rR4
      case hR4 => (intro w hSw; (try dsimp only at hSw); go_simp; try with_reducible rfl)
      change wpAnyH _ _ _ _ _ _ _ (Act.put _ (some 37) _) _
      simp only [Act.put, List.setIfInBounds_toArray, List.set_cons_zero, List.set_cons_succ]
      refine wpAnyH_take (i := 5) (v := ?vR5) rfl (by kernel_rfl) (by kernel_rfl) (by kernel_rfl) (fun _ _ _ h => h) (Or.inl ⟨by rfl, ?hR5⟩) (by assumption) ?rR5
      case hR5 => (intro w hSw; (try dsimp only at hSw); go_simp; try with_reducible rfl)
      change wpAnyH _ _ _ _ _ _ _ (Act.put _ (some 38) _) _
      simp only [Act.put, List.setIfInBounds_toArray, List.set_cons_zero, List.set_cons_succ]
      refine wpAnyH_ready (rs := [6]) (by kernel_rfl) (by simp) ?_
      refine AllReadyH.cons rfl (fun K hK => ?_) AllReadyH.nil
      go_simp
      refine (HW2.out _ (Us.drewN hl 1) rfl).mono ?_
      rintro e w4 ⟨A4, c4, rfl, ho4, hb4⟩
      go_wp2_with fail
      have hl4 := (Us.drewN hl 1).below hb4
      have k4 : Box w4 w.heap.size [.bool p, .bool e, .bool m, .int .i64 t, .int .u16 q, .int .u32 ti, .int .u32 ss, .slice A n c] := Box.call (w := w3.drew) k1 hb4
      have hx4 := Bs.below (w := w3.drew) hx hb4
      have t3 := str_of hx4
      have t4 := str_of ho4.bs
      have f4 := k4.eight.1
      refine hK.out _ _ ?_ (fun hHeld => ?_)
      · exact ⟨t3, f4⟩
      clear hK K
      try simp only [Act.put, List.setIfInBounds_toArray, List.set_cons_zero, List.set_cons_succ]
      have hHeld2 : (fun W => (convert 27 9 (.slice A4 X.length c4)).run Try.prog W = .ok (.string ⟨X.toArray⟩) W ∧ (convert 27 9 (.slice A3 X.length c3)).run Try.prog W = .ok (.string ⟨X.toArray⟩) W ∧ W.cell? ⟨w.heap.size, 0, none⟩ = some (.bool p) ∧ W.cell? ⟨w.heap.size, 1, none⟩ = some (.bool e) ∧ W.cell? ⟨w.heap.size, 2, none⟩ = some (.bool m) ∧ W.cell? ⟨w.heap.size, 3, none⟩ = some (.int .i64 t) ∧ W.cell? ⟨w.heap.size, 4, none⟩ = some (.int .u16 q) ∧ W.cell? ⟨w.heap.size, 5, none⟩ = some (.int .u32 ti) ∧ W.cell? ⟨w.heap.size, 6, none⟩ = some (.int .u32 ss) ∧ W.cell? ⟨w.heap.size, 7, none⟩ = some (.slice A n c)) w4 := ⟨t4, t3, f4⟩
      refine wpAnyH_mono (S2 := (fun W => (convert 27 9 (.slice A4 X.length c4)).run Try.prog W = .ok (.string ⟨X.toArray⟩) W ∧ (convert 27 9 (.slice A3 X.length c3)).run Try.prog W = .ok (.string ⟨X.toArray⟩) W ∧ W.cell? ⟨w.heap.size, 0, none⟩ = some (.bool p) ∧ W.cell? ⟨w.heap.size, 1, none⟩ = some (.bool e) ∧ W.cell? ⟨w.heap.size, 2, none⟩ = some (.bool m) ∧ W.cell? ⟨w.heap.size, 3, none⟩ = some (.int .i64 t) ∧ W.cell? ⟨w.heap.size, 4, none⟩ = some (.int .u16 q) ∧ W.cell? ⟨w.heap.size, 5, none⟩ = some (.int .u32 ti) ∧ W.cell? ⟨w.heap.size, 6, none⟩ = some (.int .u32 ss) ∧ W.cell? ⟨w.heap.size, 7, none⟩ = some (.slice A n c))) (fun _ h => h.2) ?_
      refine wpAnyH_take (i := 7) (v := ?vR7) rfl (by kernel_rfl) (by kernel_rfl) (by kernel_rfl) (fun _ _ _ h => h) (Or.inl ⟨by rfl, ?hR7⟩) (by assumption) ?rR7
      case hR7 => (intro w hSw; (try dsimp only at hSw); go_simp; try with_reducible rfl)
      change wpAnyH _ _ _ _ _ _ _ (Act.put _ (some 40) _) _
      simp only [Act.put, List.setIfInBounds_toArray, List.set_cons_zero, List.set_cons_succ]
      refine wpAnyH_take (i := 8) (v := ?vR8) rfl (by kernel_rfl) (by kernel_rfl) (by kernel_rfl) (fun _ _ _ h => h) (Or.inl ⟨by rfl, ?hR8⟩) (by assumption) ?rR8
      case hR8 => (intro w hSw; (try dsimp only at hSw); go_simp; try with_reducible rfl)
      change wpAnyH _ _ _ _ _ _ _ (Act.put _ (some 41) _) _
      simp only [Act.put, List.setIfInBounds_toArray, List.set_cons_zero, List.set_cons_succ]
      refine wpAnyH_take (i := 9) (v := ?vR9) rfl (by kernel_rfl) (by kernel_rfl) (by kernel_rfl) (fun _ _ _ h => h) (Or.inl ⟨by rfl, ?hR9⟩) (by assumption) ?rR9
      case hR9 => (intro w hSw; (try dsimp only at hSw); go_simp; try with_reducible rfl)
      change wpAnyH _ _ _ _ _ _ _ (Act.put _ (some 42) _) _
      simp only [Act.put, List.setIfInBounds_toArray, List.set_cons_zero, List.set_cons_succ]
      refine wpAnyH_take (i := 10) (v := ?vR10) rfl (by kernel_rfl) (by kernel_rfl) (by kernel_rfl) (fun _ _ _ h => h) (Or.inl ⟨by rfl, ?hR10⟩) (by assumption) ?rR10
      case hR10 => (intro w hSw; (try dsimp only at hSw); go_simp; try with_reducible rfl)
      change wpAnyH _ _ _ _ _ _ _ (Act.put _ (some 43) _) _
      simp only [Act.put, List.setIfInBounds_toArray, List.set_cons_zero, List.set_cons_succ]
      refine wpAnyH_take (i := 11) (v := ?vR11) rfl (by kernel_rfl) (by kernel_rfl) (by kernel_rfl) (fun _ _ _ h => h) (Or.inl ⟨by rfl, ?hR11⟩) (by assumption) ?rR11
      case hR11 => (intro w hSw; (try dsimp only at hSw); go_simp; try with_reducible rfl)
      change wpAnyH _ _ _ _ _ _ _ (Act.put _ (some 44) _) _
      simp only [Act.put, List.setIfInBounds_toArray, List.set_cons_zero, List.set_cons_succ]
      refine wpAnyH_take (i := 13) (v := ?vR13) rfl (by kernel_rfl) (by kernel_rfl) (by kernel_rfl) (fun _ _ _ h => h) (Or.inl ⟨by rfl, ?hR13⟩) (by assumption) ?rR13
      case hR13 => (intro w hSw; (try dsimp only at hSw); go_simp; try with_reducible rfl)
      change wpAnyH _ _ _ _ _ _ _ (Act.put _ (some 46) _) _
      simp only [Act.put, List.setIfInBounds_toArray, List.set_cons_zero, List.set_cons_succ]
      refine wpAnyH_take (i := 14) (v := ?vR14) rfl (by kernel_rfl) (by kernel_rfl) (by kernel_rfl) (fun _ _ _ h => h) (Or.inl ⟨by rfl, ?hR14⟩) (by assumption) ?rR14
      case hR14 => (intro w hSw; (try dsimp only at hSw); go_simp; try with_reducible rfl)
      change wpAnyH _ _ _ _ _ _ _ (Act.put _ (some 47) _) _
      simp only [Act.put, List.setIfInBounds_toArray, List.set_cons_zero, List.set_cons_succ]
      refine wpAnyH_ready (rs := [12]) (by kernel_rfl) (by simp) ?_
      refine AllReadyH.cons rfl (fun K hK => ?_) AllReadyH.nil
      go_simp
      refine (Z1.out _ hl4).mono ?_
      rintro e w5 ⟨rfl, hb5⟩
      go_wp2_with fail
      have k5 := k4.call hb5
      have t5 := str_of (ho4.bs.below hb5)
      have t6 := str_of (hx4.below hb5)
      have f5 := k5.eight.1
      refine hK.out _ _ ?_ (fun hHeld => ?_)
      · exact ⟨t5, t6, f5⟩
      clear hK K
      try simp only [Act.put, List.setIfInBounds_toArray, List.set_cons_zero, List.set_cons_succ]
      refine wpAnyH_take (i := 15) (v := ?vR15) rfl (by kernel_rfl) (by kernel_rfl) (by kernel_rfl) (fun _ _ _ h => h) (Or.inl ⟨by rfl, ?hR15⟩) (by assumption) ?rR15
      case hR15 => (intro w hSw; (try dsimp only at hSw); go_simp; try with_reducible rfl)
      change wpAnyH _ _ _ _ _ _ _ (Act.put _ (some 48) _) _
      simp only [Act.put, List.setIfInBounds_toArray, List.set_cons_zero, List.set_cons_succ]
      refine wpAnyH_take (i := 16) (v := ?vR16) rfl (by kernel_rfl) (by kernel_rfl) (by kernel_rfl) (fun _ _ _ h => h) (Or.inl ⟨by rfl, ?hR16⟩) (by assumption) ?rR16
      case hR16 => (intro w hSw; (try dsimp only at hSw); go_simp; try with_reducible rfl)
      change wpAnyH _ _ _ _ _ _ _ (Act.put _ (some 49) _) _
      simp only [Act.put, List.setIfInBounds_toArray, List.set_cons_zero, List.set_cons_succ]
      refine wpAnyH_done (by kernel_rfl) ?_ _
      go_wp2_with fail
      go_meet
      exact ((Below.refl _ w3).drew.trans (hb4.trans (hb5.mono hb4.size)))
  case rest =>
    have hb := hcut
    clear fk1
    replace hl := hl.below hb
    replace hs := hs.below hb
    replace k1 := k1.call hb
    replace hB := hB.trans (hb.mono hB.size)
    clear hb
    have fk1 := k1.eight.1
    go_wp2_with fail
    refine (D1.out _ hs).mono ?_
    rintro e w5 ⟨B5, d5, rfl, hy, hb⟩
    clear fk1
    replace hl := hl.below hb
    replace hs := hs.below hb
    replace k1 := k1.call hb
    replace hB := hB.trans (hb.mono hB.size)
    clear hb
    have fk1 := k1.eight.1
    dsimp only [hdV] at hy ⊢
    clear fk1
    have k2 := Box.new w5 [.bool rp, .bool re, .bool rm, .int .i64 rt, .int .u16 rq, .int .u32 rti, .int .u32 rss, .slice B5 rl.length d5] 26
    replace hl := hl.alloc (.cells #[.bool rp, .bool re, .bool rm, .int .i64 rt, .int .u16 rq, .int .u32 rti, .int .u32 rss, .slice B5 rl.length d5] 26)
    replace hs := hs.alloc (.cells #[.bool rp, .bool re, .bool rm, .int .i64 rt, .int .u16 rq, .int .u32 rti, .int .u32 rss, .slice B5 rl.length d5] 26)
    replace k1 := k1.alloc (.cells #[.bool rp, .bool re, .bool rm, .int .i64 rt, .int .u16 rq, .int .u32 rti, .int .u32 rss, .slice B5 rl.length d5] 26)
    replace hy := hy.alloc (.cells #[.bool rp, .bool re, .bool rm, .int .i64 rt, .int .u16 rq, .int .u32 rti, .int .u32 rss, .slice B5 rl.length d5] 26)
    replace hB := hB.alloc hB.size (.cells #[.bool rp, .bool re, .bool rm, .int .i64 rt, .int .u16 rq, .int .u32 rti, .int .u32 rss, .slice B5 rl.length d5] 26)
    have fk1 := k1.eight.1
    have fk2 := k2.eight.1
    go_wp2_with fail
    refine (D2.out _ hs).mono ?_
    rintro e' w6 ⟨B6, d6, rfl, hz, hb⟩
    clear fk1 fk2
    replace hl := hl.below hb
    replace hs := hs.below hb
    replace k1 := k1.call hb
    replace hy := hy.below hb
    replace k2 := k2.call hb
    replace hB := hB.trans (hb.mono hB.size)
    clear hb
    have fk1 := k1.eight.1
    have fk2 := k2.eight.1
    dsimp only [hdV] at hz ⊢
    clear fk1 fk2
    have k3 := Box.new w6 [.bool rp, .bool re, .bool rm, .int .i64 rt, .int .u16 rq, .int .u32 rti, .int .u32 rss, .slice B6 rl.length d6] 26
    replace hl := hl.alloc (.cells #[.bool rp, .bool re, .bool rm, .int .i64 rt, .int .u16 rq, .int .u32 rti, .int .u32 rss, .slice B6 rl.length d6] 26)
    replace hs := hs.alloc (.cells #[.bool rp, .bool re, .bool rm, .int .i64 rt, .int .u16 rq, .int .u32 rti, .int .u32 rss, .slice B6 rl.length d6] 26)
    replace k1 := k1.alloc (.cells #[.bool rp, .bool re, .bool rm, .int .i64 rt, .int .u16 rq, .int .u32 rti, .int .u32 rss, .slice B6 rl.length d6] 26)
    replace hy := hy.alloc (.cells #[.bool rp, .bool re, .bool rm, .int .i64 rt, .int .u16 rq, .int .u32 rti, .int .u32 rss, .slice B6 rl.length d6] 26)
    replace k2 := k2.alloc (.cells #[.bool rp, .bool re, .bool rm, .int .i64 rt, .int .u16 rq, .int .u32 rti, .int .u32 rss, .slice B6 rl.length d6] 26)
    replace hz := hz.alloc (.cells #[.bool rp, .bool re, .bool rm, .int .i64 rt, .int .u16 rq, .int .u32 rti, .int .u32 rss, .slice B6 rl.length d6] 26)
    replace hB := hB.alloc hB.size (.cells #[.bool rp, .bool re, .bool rm, .int .i64 rt, .int .u16 rq, .int .u32 rti, .int .u32 rss, .slice B6 rl.length d6] 26)
    have fk1 := k1.eight.1
    have fk2 := k2.eight.1
    have fk3 := k3.eight.1
    go_wp2_with fail
    refine (R2.out _ hl).mono ?_
    rintro e' w7 ⟨rfl, hb⟩
    clear fk1 fk2 fk3
    replace hl := hl.below hb
    replace hs := hs.below hb
    replace k1 := k1.call hb
    replace hy := hy.below hb
    replace k2 := k2.call hb
    replace hz := hz.below hb
    replace k3 := k3.call hb
    replace hB := hB.trans (hb.mono hB.size)
    clear hb
    have fk1 := k1.eight.1
    have fk2 := k2.eight.1
    have fk3 := k3.eight.1
    go_wp2_with fail
    refine (rsameH_any rp re rm rt rq rti rss B5 rl.length d5 rl rp re rm rt rq rti rss B6 rl.length d6 rl _ hy hz).mono ?_
    rintro e' w8 ⟨rfl, hb⟩
    rw [decide_eq_true rfl]
    clear fk1 fk2 fk3
    replace hl := hl.below hb
    replace hs := hs.below hb
    replace k1 := k1.call hb
    replace hy := hy.below hb
    replace k2 := k2.call hb
    replace hz := hz.below hb
    replace k3 := k3.call hb
    replace hB := hB.trans (hb.mono hB.size)
    clear hb
    have fk1 := k1.eight.1
    have fk2 := k2.eight.1
    have fk3 := k3.eight.1
    go_wp2_with fail
    go_ret
    exact ⟨rfl, hB⟩

theorem headRight_all (K : HeadCalls) (p e m : Bool) (t : Int) (q ti ss : Nat) (A : Option Addr) (n c : Nat) (l : List Nat) (B : Option Addr) (lb cb : Nat) (s : List UInt8) (w : World) (hl : Us w A n c l) (hs : Bs w B lb cb s) (hf : fitsH ⟨p, e, m, t, q, ti, ss, l⟩) (ht : (Lit.int .i64 t).wf = true) :
    Calls Try.prog 3 #[.agg #[.bool p, .bool e, .bool m, .int .i64 t, .int .u16 q, .int .u32 ti, .int .u32 ss, .slice A n c], .slice B lb cb] w fun e w' => e = .returned (.bool true) ∧ Below w.heap.size w w' := by
  by_cases h : 3000 < lb ∨ 99 < n
  · exact headRight_big K p e m t q ti ss A n c B lb cb w (Nat.le_trans (Sl.le hl) (Sl.cap hl)) (Nat.le_trans hs.le hs.cap) h
  · exact headRight_main K p e m t q ti ss A n c l B lb cb s w hl hs hf ht (by omega) (by omega)

end Go.Proofs.Ytjbpjmjieomoiaa

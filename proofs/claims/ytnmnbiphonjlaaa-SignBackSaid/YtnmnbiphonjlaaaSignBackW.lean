/-
  SignBack, walked under the contracts of package sign's calls. (Written by gen_SignBackW.py.)
-/
import Derived.Test.YtnmnbiphonjlaaaSignK
namespace Go.Proofs.Ytnmnbiphonjlaaa
open Go.RowKit
set_option linter.unusedVariables false
set_option linter.unusedSimpArgs false

theorem wf_i64 {x : Int} (h1 : -9223372036854775808 ≤ x) (h2 : x ≤ 9223372036854775807) : (Lit.int .i64 x).wf = true := by
  have e1 : IntKind.i64.min = -9223372036854775808 := rfl
  have e2 : IntKind.i64.max = 9223372036854775807 := rfl
  simp only [Lit.wf, Bool.and_eq_true, decide_eq_true_eq]
  omega
theorem right_small {p : Sg} (h : rightSg p = true) : p.text.size ≤ 16 ∧ p.num < 16777216 ∧ 0 ≤ p.turns ∧ p.turns < 4 := by
  refine ⟨?_, right_num h, ?_⟩
  · rcases right_kind h with hk | hk | hk | hk | hk
    · have := (tokenB_size (right_text h hk).1).2; simpa using this
    · rw [(right_3 h hk).1]; omega
    · rw [(right_4 h hk).1]; omega
    · rw [(right_5 h hk).1]; omega
    · rw [(right_6 h hk).1]; omega
  · rcases right_kind h with hk | hk | hk | hk | hk
    · rw [(right_text h hk).2.2.2.2]; omega
    · rw [(right_3 h hk).2.2.2.2]; omega
    · rw [(right_4 h hk).2.2.2]; omega
    · rw [(right_5 h hk).2.2.2.2]; omega
    · exact (right_6 h hk).2.2
theorem writeSg_small {p : Sg} (h : rightSg p = true) : (writeSg p).length ≤ 16 := by
  have := (right_small h).1
  unfold writeSg
  split
  · rw [be_length]; omega
  · split
    · simp
    · split
      · rw [be_length]; omega
      · split
        · simp
        · simpa using this
theorem neqSg (p q : Sg) (W : World) : (binOp .neq 24 (sgV p) (sgV q)).run Try.prog W = .ok (.bool (!decide (p = q))) W := by
  have h := eqSg p q W
  rw [run_eql_struct] at h
  rw [run_neq_struct]
  cases hr : (Op.equalIn 10000 24 (sgV p) (sgV q)).run Try.prog W with
  | ok b w' =>
    rw [hr] at h
    simp only [Result.andThen_ok, Result.ok.injEq, Value.bool.injEq] at h ⊢
    obtain ⟨rfl, rfl⟩ := h
    exact ⟨rfl, rfl⟩
  | _ => rw [hr] at h; simp [Result.andThen] at h
section
variable (KC : SignCalls)
include KC
set_option maxRecDepth 100000 in
set_option maxHeartbeats 2000000 in
theorem signBack_big (pk : Int) (pt : ByteArray) (pm : Nat) (pa pb : Bool) (pu : Int) (qk : Int) (qt : ByteArray) (qm : Nat) (qa qb : Bool) (qu : Int) (Kd : Int) (A : Option Addr) (n c : Nat) (s : List UInt8) (w : World) (ht : (pt.size : Int) ≤ 9223372036854775807) (ht2 : (qt.size : Int) ≤ 9223372036854775807) (hn : (n : Int) ≤ 9223372036854775807) (hb : 300 < pt.size ∨ 300 < qt.size ∨ 300 < n) :
    Calls Try.prog 4 #[.agg #[.int .i64 pk, .string pt, .int .u32 (pm : Int), .bool pa, .bool pb, .int .i64 pu], .agg #[.int .i64 qk, .string qt, .int .u32 (qm : Int), .bool qa, .bool qb, .int .i64 qu], .int .i64 Kd, .slice A n c] w fun e w' => e = .returned (.bool true) ∧ Below w.heap.size w w' := by
  have k1 := Box.new w [.int .i64 pk, .string pt, .int .u32 (pm : Int), .bool pa, .bool pb, .int .i64 pu] 24
  have hB := below1 w (.cells #[.int .i64 pk, .string pt, .int .u32 (pm : Int), .bool pa, .bool pb, .int .i64 pu] 24)
  have k2 := Box.new (w.alloc (.cells #[.int .i64 pk, .string pt, .int .u32 (pm : Int), .bool pa, .bool pb, .int .i64 pu] 24)) [.int .i64 qk, .string qt, .int .u32 (qm : Int), .bool qa, .bool qb, .int .i64 qu] 24
  rw [World.size_alloc] at k2
  replace k1 := k1.alloc (.cells #[.int .i64 qk, .string qt, .int .u32 (qm : Int), .bool qa, .bool qb, .int .i64 qu] 24)
  replace hB := hB.alloc hB.size (.cells #[.int .i64 qk, .string qt, .int .u32 (qm : Int), .bool qa, .bool qb, .int .i64 qu] 24)
  go_enter Try.func4, Try.ntmps4
  have f1 := k1.all6.1
  have f2 := k2.all6.1
  go_wp2_with fail
  clear f1 f2
  refine (awake_any KC _).mono ?_
  rintro e w2 ⟨rfl, hb2⟩
  replace k1 := k1.call hb2
  replace k2 := k2.call hb2
  replace hB := hB.trans (hb2.mono hB.size)
  have f1 := k1.all6.1
  have f2 := k2.all6.1
  by_cases h : 300 < pt.size
  · have g1 : (300 : Int) < pt.size := by omega
    have g3 : decide (300 < pt.size) = true := decide_eq_true h
    go_wp2_with fail
    go_ret
    exact ⟨rfl, hB⟩
  · have g1 : ¬ (300 : Int) < pt.size := by omega
    have g3 : decide (300 < pt.size) = false := decide_eq_false (by omega)
    by_cases h2 : 300 < qt.size
    · have g2 : (300 : Int) < qt.size := by omega
      have g4 : decide (300 < qt.size) = true := decide_eq_true h2
      go_wp2_with fail
      go_ret
      exact ⟨rfl, hB⟩
    · have g2 : ¬ (300 : Int) < qt.size := by omega
      have g4 : decide (300 < qt.size) = false := decide_eq_false (by omega)
      have g5 : (300 : Int) < n := by omega
      have g6 : decide (300 < n) = true := decide_eq_true (by omega)
      go_wp2_with fail
      go_ret
      exact ⟨by first | rfl | (simp; done), hB⟩

set_option maxRecDepth 100000 in
set_option maxHeartbeats 1500000 in
theorem signBack_no (pk : Int) (pt : ByteArray) (pm : Nat) (pa pb : Bool) (pu : Int) (qk : Int) (qt : ByteArray) (qm : Nat) (qa qb : Bool) (qu : Int) (Kd : Int) (A : Option Addr) (n c : Nat) (s : List UInt8) (w : World) (hs : Bs w A n c s) (hok : SgOk ⟨pk, pt, pm, pa, pb, pu⟩) (hok2 : SgOk ⟨qk, qt, qm, qa, qb, qu⟩) (hK : (Lit.int .i64 Kd).wf = true) (ht : pt.size ≤ 300) (ht2 : qt.size ≤ 300) (hn : n ≤ 300) (hr : rightSg ⟨pk, pt, pm, pa, pb, pu⟩ = false) :
    Calls Try.prog 4 #[.agg #[.int .i64 pk, .string pt, .int .u32 (pm : Int), .bool pa, .bool pb, .int .i64 pu], .agg #[.int .i64 qk, .string qt, .int .u32 (qm : Int), .bool qa, .bool qb, .int .i64 qu], .int .i64 Kd, .slice A n c] w fun e w' => e = .returned (.bool true) ∧ Below w.heap.size w w' := by
  have HW1 := Lib.hid (fun W => KC.write ⟨pk, pt, pm, pa, pb, pu⟩ W hok)
  have HW2 := Lib.hid (fun W => KC.write ⟨qk, qt, qm, qa, qb, qu⟩ W hok2)
  have HA := Lib.hid (fun W h => KC.read Kd A n c s W h (by omega) hK)
  have HC1 := Lib.hid (fun W h => KC.canon Kd A n c s W h (by omega) hK)
  have hsr : Hid (signE Kd s = 0 → rightSg (readSg Kd s) = true ∧ (readSg Kd s).kind = Kd) := Lib.hid (fun h => sign_right h)
  have hcan : Hid (signE Kd s = 0 → canonSg Kd s = (writeSg (readSg Kd s) == s)) := Lib.hid (fun h => by unfold canonSg; rw [Bool.eq_iff_iff, decide_eq_true_eq, beq_iff_eq]; exact ⟨fun h => h.2, fun h' => ⟨h, h'⟩⟩)
  have hne : Hid (¬ signE Kd s = 0 → readSg Kd s = zeroSg ∧ canonSg Kd s = false) := Lib.hid (fun h => ⟨by unfold readSg; rw [if_neg h], decide_eq_false fun e => h e.1⟩)
  generalize readSg Kd s = r at *
  generalize signE Kd s = er at *
  generalize canonSg Kd s = cn at *
  obtain ⟨rk, rt, rm, ra, rb, ru⟩ := r
  dsimp only [sgV] at HW1 HW2 HA
  have g1 : ¬ (300 : Int) < pt.size := by omega
  have g2 : ¬ (300 : Int) < qt.size := by omega
  have g3 : ¬ (300 : Int) < n := by omega
  have g4 : decide (300 < pt.size) = false := decide_eq_false (by omega)
  have g5 : decide (300 < qt.size) = false := decide_eq_false (by omega)
  have g6 : decide (300 < n) = false := decide_eq_false (by omega)
  have e1 : writeSB ⟨pk, pt, pm, pa, pb, pu⟩ = [] := by unfold writeSB; rw [hr]; rfl
  have e2 : writeSE ⟨pk, pt, pm, pa, pb, pu⟩ = 1 := by unfold writeSE; rw [hr]; rfl
  rw [e1, e2] at HW1
  clear e1 e2 hr hok hok2
  have k1 := Box.new w [.int .i64 pk, .string pt, .int .u32 (pm : Int), .bool pa, .bool pb, .int .i64 pu] 24
  replace hs := hs.alloc (.cells #[.int .i64 pk, .string pt, .int .u32 (pm : Int), .bool pa, .bool pb, .int .i64 pu] 24)
  have hB := below1 w (.cells #[.int .i64 pk, .string pt, .int .u32 (pm : Int), .bool pa, .bool pb, .int .i64 pu] 24)
  have k2 := Box.new (w.alloc (.cells #[.int .i64 pk, .string pt, .int .u32 (pm : Int), .bool pa, .bool pb, .int .i64 pu] 24)) [.int .i64 qk, .string qt, .int .u32 (qm : Int), .bool qa, .bool qb, .int .i64 qu] 24
  rw [World.size_alloc] at k2
  replace k1 := k1.alloc (.cells #[.int .i64 qk, .string qt, .int .u32 (qm : Int), .bool qa, .bool qb, .int .i64 qu] 24)
  replace hs := hs.alloc (.cells #[.int .i64 qk, .string qt, .int .u32 (qm : Int), .bool qa, .bool qb, .int .i64 qu] 24)
  replace hB := hB.alloc hB.size (.cells #[.int .i64 qk, .string qt, .int .u32 (qm : Int), .bool qa, .bool qb, .int .i64 qu] 24)
  go_enter Try.func4, Try.ntmps4
  have fk1 := k1.all6.1
  have fk2 := k2.all6.1
  go_wp2_with fail
  refine (awake_any KC _).mono ?_
  rintro e w2 ⟨rfl, hb⟩
  clear fk1 fk2
  replace k1 := k1.call hb
  replace k2 := k2.call hb
  replace hs := hs.below hb
  replace hB := hB.trans (hb.mono hB.size)
  clear hb
  have fk1 := k1.all6.1
  have fk2 := k2.all6.1
  go_wp2_with fail
  refine (HW1.out _).mono ?_
  rintro e w3 ⟨A3, c3, rfl, hx, hb⟩
  clear fk1 fk2
  replace k1 := k1.call hb
  replace k2 := k2.call hb
  replace hs := hs.below hb
  replace hB := hB.trans (hb.mono hB.size)
  clear hb
  have fk1 := k1.all6.1
  have fk2 := k2.all6.1
  go_wp2_with fail
  refine (HW2.out _).mono ?_
  rintro e w4 ⟨A4, c4, rfl, hy, hb⟩
  clear fk1 fk2
  replace k1 := k1.call hb
  replace k2 := k2.call hb
  replace hs := hs.below hb
  replace hx := hx.below hb
  replace hB := hB.trans (hb.mono hB.size)
  clear hb
  clear hx hy k1 k2
  go_wp2_with fail
  refine (HA.out _ hs).mono ?_
  rintro e w20 ⟨rfl, hb⟩
  replace hs := hs.below hb
  replace hB := hB.trans (hb.mono hB.size)
  clear hb
  have k20 := Box.new w20 [.int .i64 rk, .string rt, .int .u32 (rm : Int), .bool ra, .bool rb, .int .i64 ru] 24
  replace hs := hs.alloc (.cells #[.int .i64 rk, .string rt, .int .u32 (rm : Int), .bool ra, .bool rb, .int .i64 ru] 24)
  replace hB := hB.alloc hB.size (.cells #[.int .i64 rk, .string rt, .int .u32 (rm : Int), .bool ra, .bool rb, .int .i64 ru] 24)
  have fk20 := k20.all6.1
  by_cases he : er = 0
  · subst he
    obtain ⟨hrr, hrk⟩ := hsr.out rfl
    obtain ⟨hr1, hr2, hr3, hr4⟩ := right_small hrr
    simp only at hr1 hr2 hr3 hr4
    obtain rfl : Kd = rk := hrk.symm
    have hokr : SgOk ⟨Kd, rt, rm, ra, rb, ru⟩ := ⟨by simp only; omega, by simp only; omega, hK, wf_i64 (by simp only; omega) (by simp only; omega)⟩
    have HWr := Lib.hid (fun W => KC.write ⟨Kd, rt, rm, ra, rb, ru⟩ W hokr)
    have HXr := Lib.hid (fun W => KC.right ⟨Kd, rt, rm, ra, rb, ru⟩ W hokr)
    have e1 : writeSB ⟨Kd, rt, rm, ra, rb, ru⟩ = writeSg ⟨Kd, rt, rm, ra, rb, ru⟩ := by unfold writeSB; rw [hrr]; rfl
    have e2 : writeSE ⟨Kd, rt, rm, ra, rb, ru⟩ = 0 := by unfold writeSE; rw [hrr]; rfl
    have hrw := sign_read_write hrr
    simp only at hrw
    have hzl : (writeSg ⟨Kd, rt, rm, ra, rb, ru⟩).length ≤ 16 := writeSg_small hrr
    have HAr := Lib.hid (fun W A c h => KC.read Kd A (writeSg ⟨Kd, rt, rm, ra, rb, ru⟩).length c (writeSg ⟨Kd, rt, rm, ra, rb, ru⟩) W h (by omega) hK)
    rw [hrw.1, hrw.2] at HAr
    rw [e1, e2] at HWr
    rw [hrr] at HXr
    have hcn := hcan.out rfl
    have heqr : ∀ W, (binOp .eql 24 (.agg #[.int .i64 Kd, .string rt, .int .u32 (rm : Int), .bool ra, .bool rb, .int .i64 ru]) (.agg #[.int .i64 Kd, .string rt, .int .u32 (rm : Int), .bool ra, .bool rb, .int .i64 ru])).run Try.prog W = .ok (.bool true) W := fun W => by
      have := eqSg ⟨Kd, rt, rm, ra, rb, ru⟩ ⟨Kd, rt, rm, ra, rb, ru⟩ W
      rwa [decide_eq_true rfl] at this
    dsimp only [sgV] at HWr HXr HAr
    clear hrr e1 e2 hrw hokr hsr hcan hne hr1 hr2 hr3 hr4
    generalize writeSg ⟨Kd, rt, rm, ra, rb, ru⟩ = Z at *
    subst hcn
    go_wp2_with fail
    refine (HWr.out _).mono ?_
    rintro e w21 ⟨A21, c21, rfl, hz, hb⟩
    clear fk20
    replace hs := hs.below hb
    replace k20 := k20.call hb
    replace hB := hB.trans (hb.mono hB.size)
    clear hb
    have fk20 := k20.all6.1
    go_wp2_with fail
    refine (HAr.out _ A21 c21 hz).mono ?_
    rintro e w22 ⟨rfl, hb⟩
    clear fk20
    replace hs := hs.below hb
    replace k20 := k20.call hb
    replace hz := hz.below hb
    replace hB := hB.trans (hb.mono hB.size)
    clear hb
    have k22 := Box.new w22 [.int .i64 Kd, .string rt, .int .u32 (rm : Int), .bool ra, .bool rb, .int .i64 ru] 24
    replace hs := hs.alloc (.cells #[.int .i64 Kd, .string rt, .int .u32 (rm : Int), .bool ra, .bool rb, .int .i64 ru] 24)
    replace k20 := k20.alloc (.cells #[.int .i64 Kd, .string rt, .int .u32 (rm : Int), .bool ra, .bool rb, .int .i64 ru] 24)
    replace hz := hz.alloc (.cells #[.int .i64 Kd, .string rt, .int .u32 (rm : Int), .bool ra, .bool rb, .int .i64 ru] 24)
    replace hB := hB.alloc hB.size (.cells #[.int .i64 Kd, .string rt, .int .u32 (rm : Int), .bool ra, .bool rb, .int .i64 ru] 24)
    have fk20 := k20.all6.1
    have fk22 := k22.all6.1
    go_upto_region 18 with fail
    refine wp_region_held_drew (S := (fun W => (convert 25 9 (.slice A21 Z.length c21)).run Try.prog W = .ok (.string ⟨Z.toArray⟩) W ∧ (convert 25 9 (.slice A n c)).run Try.prog W = .ok (.string ⟨s.toArray⟩) W ∧ (W.cell? ⟨w20.heap.size, 0, none⟩ = some (.int .i64 Kd) ∧ W.cell? ⟨w20.heap.size, 1, none⟩ = some (.string rt) ∧ W.cell? ⟨w20.heap.size, 2, none⟩ = some (.int .u32 (rm : Int)) ∧ W.cell? ⟨w20.heap.size, 3, none⟩ = some (.bool ra) ∧ W.cell? ⟨w20.heap.size, 4, none⟩ = some (.bool rb) ∧ W.cell? ⟨w20.heap.size, 5, none⟩ = some (.int .i64 ru)) ∧ W.cell? ⟨w22.heap.size, 0, none⟩ = some (.int .i64 Kd) ∧ W.cell? ⟨w22.heap.size, 1, none⟩ = some (.string rt) ∧ W.cell? ⟨w22.heap.size, 2, none⟩ = some (.int .u32 (rm : Int)) ∧ W.cell? ⟨w22.heap.size, 3, none⟩ = some (.bool ra) ∧ W.cell? ⟨w22.heap.size, 4, none⟩ = some (.bool rb) ∧ W.cell? ⟨w22.heap.size, 5, none⟩ = some (.int .i64 ru))) (by kernel_rfl) ⟨str_of hz.drew, str_of hs.drew, k20.all6.1, k22.all6.1⟩ (fun hHeld => ?_)
    clear fk20 fk22
    refine wpAnyH_take (i := 0) (v := ?vL0) rfl (by kernel_rfl) (by kernel_rfl) (by kernel_rfl) (fun _ _ _ h => h) (Or.inl ⟨by rfl, ?hL0⟩) (by assumption) ?rL0
    case hL0 => (intro w hSw; (try dsimp only at hSw); go_simp; try with_reducible rfl)
    change wpAnyH _ _ _ _ _ _ _ (Act.put _ (some 119) _) _
    simp only [Act.put, List.setIfInBounds_toArray, List.set_cons_zero, List.set_cons_succ]
    refine wpAnyH_take (i := 1) (v := ?vL1) rfl (by kernel_rfl) (by kernel_rfl) (by kernel_rfl) (fun _ _ _ h => h) (Or.inl ⟨by rfl, ?hL1⟩) (by assumption) ?rL1
    case hL1 => (intro w hSw; (try dsimp only at hSw); go_simp; try with_reducible rfl)
    change wpAnyH _ _ _ _ _ _ _ (Act.put _ (some 120) _) _
    simp only [Act.put, List.setIfInBounds_toArray, List.set_cons_zero, List.set_cons_succ]
    refine wpAnyH_take (i := 2) (v := ?vL2) rfl (by kernel_rfl) (by kernel_rfl) (by kernel_rfl) (fun _ _ _ h => h) (Or.inl ⟨by rfl, ?hL2⟩) (by assumption) ?rL2
    case hL2 => (intro w hSw; (try dsimp only at hSw); go_simp; try with_reducible rfl)
    change wpAnyH _ _ _ _ _ _ _ (Act.put _ (some 121) _) _
    simp only [Act.put, List.setIfInBounds_toArray, List.set_cons_zero, List.set_cons_succ]
    refine wpAnyH_take (i := 3) (v := ?vL3) rfl (by kernel_rfl) (by kernel_rfl) (by kernel_rfl) (fun _ _ _ h => h) (Or.inl ⟨by rfl, ?hL3⟩) (by assumption) ?rL3
    case hL3 => (intro w hSw; (try dsimp only at hSw); go_simp; try with_reducible rfl)
    change wpAnyH _ _ _ _ _ _ _ (Act.put _ (some 122) _) _
    simp only [Act.put, List.setIfInBounds_toArray, List.set_cons_zero, List.set_cons_succ]
    refine wpAnyH_take (i := 4) (v := ?vL4) rfl (by kernel_rfl) (by kernel_rfl) (by kernel_rfl) (fun _ _ _ h => h) (Or.inl ⟨by rfl, ?hL4⟩) (by assumption) ?rL4
    case hL4 => (intro w hSw; (try dsimp only at hSw); go_simp; try with_reducible rfl)
    change wpAnyH _ _ _ _ _ _ _ (Act.put _ (some 123) _) _
    simp only [Act.put, List.setIfInBounds_toArray, List.set_cons_zero, List.set_cons_succ]
    refine wpAnyH_take (i := 5) (v := ?vL5) rfl (by kernel_rfl) (by kernel_rfl) (by kernel_rfl) (fun _ _ _ h => h) (Or.inl ⟨by rfl, ?hL5⟩) (by assumption) ?rL5
    case hL5 => (intro w hSw; (try dsimp only at hSw); go_simp; try with_reducible rfl)
    change wpAnyH _ _ _ _ _ _ _ (Act.put _ (some 124) _) _
    simp only [Act.put, List.setIfInBounds_toArray, List.set_cons_zero, List.set_cons_succ]
    refine wpAnyH_take (i := 6) (v := ?vL6) rfl (by kernel_rfl) (by kernel_rfl) (by kernel_rfl) (fun _ _ _ h => h) (Or.inl ⟨by rfl, ?hL6⟩) (by assumption) ?rL6
    case hL6 => (intro w hSw; (try dsimp only at hSw); go_simp; try with_reducible rfl)
    change wpAnyH _ _ _ _ _ _ _ (Act.put _ (some 125) _) _
    simp only [Act.put, List.setIfInBounds_toArray, List.set_cons_zero, List.set_cons_succ]
    refine wpAnyH_take (i := 7) (v := ?vL7) rfl (by kernel_rfl) (by kernel_rfl) (by kernel_rfl) (fun _ _ _ h => h) (Or.inl ⟨by rfl, ?hL7⟩) (by assumption) ?rL7
    case hL7 => (intro w hSw; (try dsimp only at hSw); go_simp; try with_reducible rfl)
    change wpAnyH _ _ _ _ _ _ _ (Act.put _ (some 126) _) _
    simp only [Act.put, List.setIfInBounds_toArray, List.set_cons_zero, List.set_cons_succ]
    refine wpAnyH_ready (rs := [8]) (by kernel_rfl) (by simp) ?_
    refine AllReadyH.cons rfl (fun K hK => ?_) AllReadyH.nil
    go_simp
    refine (HXr.out _).mono ?_
    rintro e wa ⟨rfl, hba⟩
    go_wp2_with fail
    have hza := Bs.below (w := (w22.alloc (.cells #[.int .i64 Kd, .string rt, .int .u32 (rm : Int), .bool ra, .bool rb, .int .i64 ru] 24)).drew) hz.drew hba
    have hsa := Bs.below (w := (w22.alloc (.cells #[.int .i64 Kd, .string rt, .int .u32 (rm : Int), .bool ra, .bool rb, .int .i64 ru] 24)).drew) hs.drew hba
    have k20a := Box.call (w := (w22.alloc (.cells #[.int .i64 Kd, .string rt, .int .u32 (rm : Int), .bool ra, .bool rb, .int .i64 ru] 24)).drew) k20 hba
    have k22a := Box.call (w := (w22.alloc (.cells #[.int .i64 Kd, .string rt, .int .u32 (rm : Int), .bool ra, .bool rb, .int .i64 ru] 24)).drew) k22 hba
    refine hK.out _ _ ?_ (fun hHeld => ?_)
    · exact ⟨str_of hza, str_of hsa, k20a.all6.1, k22a.all6.1⟩
    clear hK K
    try simp only [Act.put, List.setIfInBounds_toArray, List.set_cons_zero, List.set_cons_succ]
    refine wpAnyH_take (i := 9) (v := ?vL9) rfl (by kernel_rfl) (by kernel_rfl) (by kernel_rfl) (fun _ _ _ h => h) (Or.inl ⟨by rfl, ?hL9⟩) (by assumption) ?rL9
    case hL9 => (intro w hSw; (try dsimp only at hSw); go_simp; try with_reducible rfl)
    change wpAnyH _ _ _ _ _ _ _ (Act.put _ (some 128) _) _
    simp only [Act.put, List.setIfInBounds_toArray, List.set_cons_zero, List.set_cons_succ]
    refine wpAnyH_take (i := 10) (v := ?vL10) rfl (by kernel_rfl) (by kernel_rfl) (by kernel_rfl) (fun _ _ _ h => h) (Or.inl ⟨by rfl, ?hL10⟩) (by assumption) ?rL10
    case hL10 => (intro w hSw; (try dsimp only at hSw); go_simp; try with_reducible rfl)
    change wpAnyH _ _ _ _ _ _ _ (Act.put _ (some 129) _) _
    simp only [Act.put, List.setIfInBounds_toArray, List.set_cons_zero, List.set_cons_succ]
    refine wpAnyH_take (i := 11) (v := ?vL11) rfl (by kernel_rfl) (by kernel_rfl) (by kernel_rfl) (fun _ _ _ h => h) (Or.inl ⟨by rfl, ?hL11⟩) (by assumption) ?rL11
    case hL11 => (intro w hSw; (try dsimp only at hSw); go_simp; try with_reducible rfl)
    change wpAnyH _ _ _ _ _ _ _ (Act.put _ (some 130) _) _
    simp only [Act.put, List.setIfInBounds_toArray, List.set_cons_zero, List.set_cons_succ]
    refine wpAnyH_take (i := 12) (v := ?vL12) rfl (by kernel_rfl) (by kernel_rfl) (by kernel_rfl) (fun _ _ _ h => h) (Or.inl ⟨by rfl, ?hL12⟩) (by assumption) ?rL12
    case hL12 => (intro w hSw; (try dsimp only at hSw); go_simp; try with_reducible rfl)
    change wpAnyH _ _ _ _ _ _ _ (Act.put _ (some 131) _) _
    simp only [Act.put, List.setIfInBounds_toArray, List.set_cons_zero, List.set_cons_succ]
    refine wpAnyH_take (i := 13) (v := ?vL13) rfl (by kernel_rfl) (by kernel_rfl) (by kernel_rfl) (fun _ _ _ h => h) (Or.inl ⟨by rfl, ?hL13⟩) (by assumption) ?rL13
    case hL13 => (intro w hSw; (try dsimp only at hSw); go_simp; try with_reducible rfl)
    change wpAnyH _ _ _ _ _ _ _ (Act.put _ (some 132) _) _
    simp only [Act.put, List.setIfInBounds_toArray, List.set_cons_zero, List.set_cons_succ]
    refine wpAnyH_take (i := 14) (v := ?vL14) rfl (by kernel_rfl) (by kernel_rfl) (by kernel_rfl) (fun _ _ _ h => h) (Or.inl ⟨by rfl, ?hL14⟩) (by assumption) ?rL14
    case hL14 => (intro w hSw; (try dsimp only at hSw); go_simp; try with_reducible rfl)
    change wpAnyH _ _ _ _ _ _ _ (Act.put _ (some 133) _) _
    simp only [Act.put, List.setIfInBounds_toArray, List.set_cons_zero, List.set_cons_succ]
    refine wpAnyH_take (i := 15) (v := ?vL15) rfl (by kernel_rfl) (by kernel_rfl) (by kernel_rfl) (fun _ _ _ h => h) (Or.inl ⟨by rfl, ?hL15⟩) (by assumption) ?rL15
    case hL15 => (intro w hSw; (try dsimp only at hSw); go_simp; try with_reducible rfl)
    change wpAnyH _ _ _ _ _ _ _ (Act.put _ (some 134) _) _
    simp only [Act.put, List.setIfInBounds_toArray, List.set_cons_zero, List.set_cons_succ]
    refine wpAnyH_take (i := 16) (v := ?vL16) rfl (by kernel_rfl) (by kernel_rfl) (by kernel_rfl) (fun _ _ _ h => h) (Or.inl ⟨by rfl, ?hL16⟩) (by assumption) ?rL16
    case hL16 => (intro w hSw; (try dsimp only at hSw); go_simp; try with_reducible rfl)
    change wpAnyH _ _ _ _ _ _ _ (Act.put _ (some 135) _) _
    simp only [Act.put, List.setIfInBounds_toArray, List.set_cons_zero, List.set_cons_succ]
    refine wpAnyH_take (i := 17) (v := ?vL17) rfl (by kernel_rfl) (by kernel_rfl) (by kernel_rfl) (fun _ _ _ h => h) (Or.inl ⟨by rfl, ?hL17⟩) (by assumption) ?rL17
    case hL17 => (intro w hSw; (try dsimp only at hSw); go_simp; try with_reducible rfl)
    change wpAnyH _ _ _ _ _ _ _ (Act.put _ (some 136) _) _
    simp only [Act.put, List.setIfInBounds_toArray, List.set_cons_zero, List.set_cons_succ]
    refine wpAnyH_take (i := 18) (v := ?vL18) rfl (by kernel_rfl) (by kernel_rfl) (by kernel_rfl) (fun _ _ _ h => h) (Or.inl ⟨by rfl, ?hL18⟩) (by assumption) ?rL18
    case hL18 => (intro w hSw; (try dsimp only at hSw); go_simp; try with_reducible rfl)
    change wpAnyH _ _ _ _ _ _ _ (Act.put _ (some 137) _) _
    simp only [Act.put, List.setIfInBounds_toArray, List.set_cons_zero, List.set_cons_succ]
    refine wpAnyH_take (i := 19) (v := ?vL19) rfl (by kernel_rfl) (by kernel_rfl) (by kernel_rfl) (fun _ _ _ h => h) (Or.inl ⟨by rfl, ?hL19⟩) (by assumption) ?rL19
    case hL19 => (intro w hSw; (try dsimp only at hSw); go_simp; try with_reducible rfl)
    change wpAnyH _ _ _ _ _ _ _ (Act.put _ (some 138) _) _
    simp only [Act.put, List.setIfInBounds_toArray, List.set_cons_zero, List.set_cons_succ]
    refine wpAnyH_take (i := 20) (v := ?vL20) rfl (by kernel_rfl) (by kernel_rfl) (by kernel_rfl) (fun _ _ _ h => h) (Or.inl ⟨by rfl, ?hL20⟩) (by assumption) ?rL20
    case hL20 => (intro w hSw; (try dsimp only at hSw); go_simp; try with_reducible rfl)
    change wpAnyH _ _ _ _ _ _ _ (Act.put _ (some 139) _) _
    simp only [Act.put, List.setIfInBounds_toArray, List.set_cons_zero, List.set_cons_succ]
    refine wpAnyH_take (i := 21) (v := ?vL21) rfl (by kernel_rfl) (by kernel_rfl) (by kernel_rfl) (fun _ _ _ h => h) (Or.inl ⟨by rfl, ?hL21⟩) (by assumption) ?rL21
    case hL21 => (intro w hSw; (try dsimp only at hSw); go_simp; try with_reducible rfl)
    change wpAnyH _ _ _ _ _ _ _ (Act.put _ (some 140) _) _
    simp only [Act.put, List.setIfInBounds_toArray, List.set_cons_zero, List.set_cons_succ]
    refine wpAnyH_take (i := 22) (v := ?vL22) rfl (by kernel_rfl) (by kernel_rfl) (by kernel_rfl) (fun _ _ _ h => h) (Or.inl ⟨by rfl, ?hL22⟩) (by assumption) ?rL22
    case hL22 => (intro w hSw; (try dsimp only at hSw); go_simp; try with_reducible rfl)
    change wpAnyH _ _ _ _ _ _ _ (Act.put _ (some 141) _) _
    simp only [Act.put, List.setIfInBounds_toArray, List.set_cons_zero, List.set_cons_succ]
    refine wpAnyH_take (i := 23) (v := ?vL23) rfl (by kernel_rfl) (by kernel_rfl) (by kernel_rfl) (fun _ _ _ h => h) (Or.inl ⟨by rfl, ?hL23⟩) (by assumption) ?rL23
    case hL23 => (intro w hSw; (try dsimp only at hSw); go_simp; try with_reducible rfl)
    change wpAnyH _ _ _ _ _ _ _ (Act.put _ (some 142) _) _
    simp only [Act.put, List.setIfInBounds_toArray, List.set_cons_zero, List.set_cons_succ]
    refine wpAnyH_take (i := 25) (v := ?vL25) rfl (by kernel_rfl) (by kernel_rfl) (by kernel_rfl) (fun _ _ _ h => h) (Or.inl ⟨by rfl, ?hL25⟩) (by assumption) ?rL25
    case hL25 => (intro w hSw; (try dsimp only at hSw); go_simp; try with_reducible rfl)
    change wpAnyH _ _ _ _ _ _ _ (Act.put _ (some 144) _) _
    simp only [Act.put, List.setIfInBounds_toArray, List.set_cons_zero, List.set_cons_succ]
    refine wpAnyH_take (i := 26) (v := ?vL26) rfl (by kernel_rfl) (by kernel_rfl) (by kernel_rfl) (fun _ _ _ h => h) (Or.inl ⟨by rfl, ?hL26⟩) (by assumption) ?rL26
    case hL26 => (intro w hSw; (try dsimp only at hSw); go_simp; try with_reducible rfl)
    change wpAnyH _ _ _ _ _ _ _ (Act.put _ (some 145) _) _
    simp only [Act.put, List.setIfInBounds_toArray, List.set_cons_zero, List.set_cons_succ]
    refine wpAnyH_take (i := 27) (v := ?vL27) rfl (by kernel_rfl) (by kernel_rfl) (by kernel_rfl) (fun _ _ _ h => h) (Or.inl ⟨by rfl, ?hL27⟩) (by assumption) ?rL27
    case hL27 => (intro w hSw; (try dsimp only at hSw); go_simp; try with_reducible rfl)
    change wpAnyH _ _ _ _ _ _ _ (Act.put _ (some 146) _) _
    simp only [Act.put, List.setIfInBounds_toArray, List.set_cons_zero, List.set_cons_succ]
    refine wpAnyH_take (i := 28) (v := ?vL28) rfl (by kernel_rfl) (by kernel_rfl) (by kernel_rfl) (fun _ _ _ h => h) (Or.inl ⟨by rfl, ?hL28⟩) (by assumption) ?rL28
    case hL28 => (intro w hSw; (try dsimp only at hSw); go_simp; try with_reducible rfl)
    change wpAnyH _ _ _ _ _ _ _ (Act.put _ (some 147) _) _
    simp only [Act.put, List.setIfInBounds_toArray, List.set_cons_zero, List.set_cons_succ]
    refine wpAnyH_take (i := 29) (v := ?vL29) rfl (by kernel_rfl) (by kernel_rfl) (by kernel_rfl) (fun _ _ _ h => h) (Or.inl ⟨by rfl, ?hL29⟩) (by assumption) ?rL29
    case hL29 => (intro w hSw; (try dsimp only at hSw); go_simp; try with_reducible rfl)
    change wpAnyH _ _ _ _ _ _ _ (Act.put _ (some 148) _) _
    simp only [Act.put, List.setIfInBounds_toArray, List.set_cons_zero, List.set_cons_succ]
    refine wpAnyH_ready (rs := [24]) (by kernel_rfl) (by simp) ?_
    refine AllReadyH.cons rfl (fun K hK => ?_) AllReadyH.nil
    go_simp
    refine (HC1.out _ hsa).mono ?_
    rintro e wb ⟨rfl, hbb⟩
    go_wp2_with fail
    refine hK.out _ _ ?_ (fun hHeld => ?_)
    · exact ⟨str_of (hza.below hbb), str_of (hsa.below hbb), (k20a.call hbb).all6.1, (k22a.call hbb).all6.1⟩
    clear hK K
    try simp only [Act.put, List.setIfInBounds_toArray, List.set_cons_zero, List.set_cons_succ]
    refine wpAnyH_take (i := 30) (v := ?vL30) rfl (by kernel_rfl) (by kernel_rfl) (by kernel_rfl) (fun _ _ _ h => h) (Or.inl ⟨by rfl, ?hL30⟩) (by assumption) ?rL30
    case hL30 => (intro w hSw; (try dsimp only at hSw); go_simp; try with_reducible rfl)
    change wpAnyH _ _ _ _ _ _ _ (Act.put _ (some 149) _) _
    simp only [Act.put, List.setIfInBounds_toArray, List.set_cons_zero, List.set_cons_succ]
    refine wpAnyH_take (i := 31) (v := ?vL31) rfl (by kernel_rfl) (by kernel_rfl) (by kernel_rfl) (fun _ _ _ h => h) (Or.inl ⟨by rfl, ?hL31⟩) (by assumption) ?rL31
    case hL31 => (intro w hSw; (try dsimp only at hSw); go_simp; try with_reducible rfl)
    change wpAnyH _ _ _ _ _ _ _ (Act.put _ (some 150) _) _
    simp only [Act.put, List.setIfInBounds_toArray, List.set_cons_zero, List.set_cons_succ]
    refine wpAnyH_take (i := 32) (v := ?vL32) rfl (by kernel_rfl) (by kernel_rfl) (by kernel_rfl) (fun _ _ _ h => h) (Or.inl ⟨by rfl, ?hL32⟩) (by assumption) ?rL32
    case hL32 => (intro w hSw; (try dsimp only at hSw); go_simp; try with_reducible rfl)
    change wpAnyH _ _ _ _ _ _ _ (Act.put _ (some 8) _) _
    simp only [Act.put, List.setIfInBounds_toArray, List.set_cons_zero, List.set_cons_succ]
    refine wpAnyH_done (by kernel_rfl) ?_ _
    go_wp2_with fail
    go_ret
    exact ⟨by first | rfl | (simp; done), hB.trans (((Below.refl _ _).drew.trans (hba.trans (hbb.mono hba.size))).mono hB.size)⟩
  · obtain ⟨hz0, hcn⟩ := hne.out he
    have hzz : ((er : Int) != 0) = true := by rw [bne_iff_ne]; omega
    rw [Sg.eq_iff] at hz0
    simp only [zeroSg] at hz0
    obtain ⟨rfl, rfl, rfl, rfl, rfl, rfl⟩ := hz0
    subst hcn
    have heqz : ∀ W, (binOp .eql 24 (.agg #[.int .i64 0, .string ⟨#[]⟩, .int .u32 0, .bool false, .bool false, .int .i64 0]) (.agg #[.int .i64 0, .string ⟨#[]⟩, .int .u32 0, .bool false, .bool false, .int .i64 0])).run Try.prog W = .ok (.bool true) W := fun W => by
      have := eqSg zeroSg zeroSg W
      rwa [decide_eq_true rfl] at this
    clear he
    go_wp2_with fail
    refine (HC1.out _ hs).mono ?_
    rintro e w21 ⟨rfl, hb⟩
    go_wp2_with fail
    go_ret
    exact ⟨by first | rfl | (simp; done), hB.trans (hb.mono hB.size)⟩

set_option maxRecDepth 100000 in
set_option maxHeartbeats 1500000 in
theorem signBack_yes (pk : Int) (pt : ByteArray) (pm : Nat) (pa pb : Bool) (pu : Int) (qk : Int) (qt : ByteArray) (qm : Nat) (qa qb : Bool) (qu : Int) (Kd : Int) (A : Option Addr) (n c : Nat) (s : List UInt8) (w : World) (hs : Bs w A n c s) (hok : SgOk ⟨pk, pt, pm, pa, pb, pu⟩) (hok2 : SgOk ⟨qk, qt, qm, qa, qb, qu⟩) (hK : (Lit.int .i64 Kd).wf = true) (ht : pt.size ≤ 300) (ht2 : qt.size ≤ 300) (hn : n ≤ 300) (hr : rightSg ⟨pk, pt, pm, pa, pb, pu⟩ = true) :
    Calls Try.prog 4 #[.agg #[.int .i64 pk, .string pt, .int .u32 (pm : Int), .bool pa, .bool pb, .int .i64 pu], .agg #[.int .i64 qk, .string qt, .int .u32 (qm : Int), .bool qa, .bool qb, .int .i64 qu], .int .i64 Kd, .slice A n c] w fun e w' => e = .returned (.bool true) ∧ Below w.heap.size w w' := by
  have HW1 := Lib.hid (fun W => KC.write ⟨pk, pt, pm, pa, pb, pu⟩ W hok)
  have HW2 := Lib.hid (fun W => KC.write ⟨qk, qt, qm, qa, qb, qu⟩ W hok2)
  have HA := Lib.hid (fun W h => KC.read Kd A n c s W h (by omega) hK)
  have HC1 := Lib.hid (fun W h => KC.canon Kd A n c s W h (by omega) hK)
  have hsr : Hid (signE Kd s = 0 → rightSg (readSg Kd s) = true ∧ (readSg Kd s).kind = Kd) := Lib.hid (fun h => sign_right h)
  have hcan : Hid (signE Kd s = 0 → canonSg Kd s = (writeSg (readSg Kd s) == s)) := Lib.hid (fun h => by unfold canonSg; rw [Bool.eq_iff_iff, decide_eq_true_eq, beq_iff_eq]; exact ⟨fun h => h.2, fun h' => ⟨h, h'⟩⟩)
  have hne : Hid (¬ signE Kd s = 0 → readSg Kd s = zeroSg ∧ canonSg Kd s = false) := Lib.hid (fun h => ⟨by unfold readSg; rw [if_neg h], decide_eq_false fun e => h e.1⟩)
  generalize readSg Kd s = r at *
  generalize signE Kd s = er at *
  generalize canonSg Kd s = cn at *
  obtain ⟨rk, rt, rm, ra, rb, ru⟩ := r
  dsimp only [sgV] at HW1 HW2 HA
  have g1 : ¬ (300 : Int) < pt.size := by omega
  have g2 : ¬ (300 : Int) < qt.size := by omega
  have g3 : ¬ (300 : Int) < n := by omega
  have g4 : decide (300 < pt.size) = false := decide_eq_false (by omega)
  have g5 : decide (300 < qt.size) = false := decide_eq_false (by omega)
  have g6 : decide (300 < n) = false := decide_eq_false (by omega)
  have hrw := sign_read_write hr
  simp only at hrw
  have hzl : (writeSg ⟨pk, pt, pm, pa, pb, pu⟩).length ≤ 16 := writeSg_small hr
  have hpk := hok.2.2.1
  simp only at hpk
  have HAp := Lib.hid (fun W A c h => KC.read pk A (writeSg ⟨pk, pt, pm, pa, pb, pu⟩).length c (writeSg ⟨pk, pt, pm, pa, pb, pu⟩) W h (by omega) hpk)
  have HCp := Lib.hid (fun W A c h => KC.canon pk A (writeSg ⟨pk, pt, pm, pa, pb, pu⟩).length c (writeSg ⟨pk, pt, pm, pa, pb, pu⟩) W h (by omega) hpk)
  have hcp : canonSg pk (writeSg ⟨pk, pt, pm, pa, pb, pu⟩) = true := decide_eq_true ⟨hrw.1, by rw [hrw.2]⟩
  rw [hrw.1, hrw.2] at HAp
  rw [hcp] at HCp
  have e1 : writeSB ⟨pk, pt, pm, pa, pb, pu⟩ = writeSg ⟨pk, pt, pm, pa, pb, pu⟩ := by unfold writeSB; rw [hr]; rfl
  have e2 : writeSE ⟨pk, pt, pm, pa, pb, pu⟩ = 0 := by unfold writeSE; rw [hr]; rfl
  rw [e1, e2] at HW1
  have hinj : Hid (rightSg ⟨qk, qt, qm, qa, qb, qu⟩ = true → pk = qk → writeSB ⟨qk, qt, qm, qa, qb, qu⟩ = writeSg ⟨qk, qt, qm, qa, qb, qu⟩ ∧ writeSE ⟨qk, qt, qm, qa, qb, qu⟩ = 0 ∧ (writeSg ⟨pk, pt, pm, pa, pb, pu⟩ = writeSg ⟨qk, qt, qm, qa, qb, qu⟩ ↔ ((⟨pk, pt, pm, pa, pb, pu⟩ : Sg) = ⟨qk, qt, qm, qa, qb, qu⟩))) := Lib.hid (fun k1 k2 => ⟨by unfold writeSB; rw [k1]; rfl, by unfold writeSE; rw [k1]; rfl, sign_inj hr k1 k2⟩)
  have hq0 : Hid (rightSg ⟨qk, qt, qm, qa, qb, qu⟩ = true → writeSE ⟨qk, qt, qm, qa, qb, qu⟩ = 0) := Lib.hid (fun k => by unfold writeSE; rw [k]; rfl)
  have hq1 : Hid (¬ rightSg ⟨qk, qt, qm, qa, qb, qu⟩ = true → writeSE ⟨qk, qt, qm, qa, qb, qu⟩ = 1) := Lib.hid (fun k => by unfold writeSE; rw [if_neg k])
  have heqp : ∀ W, (binOp .neq 24 (.agg #[.int .i64 pk, .string pt, .int .u32 (pm : Int), .bool pa, .bool pb, .int .i64 pu]) (.agg #[.int .i64 pk, .string pt, .int .u32 (pm : Int), .bool pa, .bool pb, .int .i64 pu])).run Try.prog W = .ok (.bool false) W := fun W => by
    have := neqSg ⟨pk, pt, pm, pa, pb, pu⟩ ⟨pk, pt, pm, pa, pb, pu⟩ W
    rwa [decide_eq_true rfl] at this
  dsimp only [sgV] at HAp
  generalize writeSg ⟨pk, pt, pm, pa, pb, pu⟩ = X at *
  generalize hYe : writeSB ⟨qk, qt, qm, qa, qb, qu⟩ = Y at *
  generalize hye : writeSE ⟨qk, qt, qm, qa, qb, qu⟩ = ye at *
  clear hcp hrw e1 e2 hr hok hok2 hYe hye hpk hzl
  have k1 := Box.new w [.int .i64 pk, .string pt, .int .u32 (pm : Int), .bool pa, .bool pb, .int .i64 pu] 24
  replace hs := hs.alloc (.cells #[.int .i64 pk, .string pt, .int .u32 (pm : Int), .bool pa, .bool pb, .int .i64 pu] 24)
  have hB := below1 w (.cells #[.int .i64 pk, .string pt, .int .u32 (pm : Int), .bool pa, .bool pb, .int .i64 pu] 24)
  have k2 := Box.new (w.alloc (.cells #[.int .i64 pk, .string pt, .int .u32 (pm : Int), .bool pa, .bool pb, .int .i64 pu] 24)) [.int .i64 qk, .string qt, .int .u32 (qm : Int), .bool qa, .bool qb, .int .i64 qu] 24
  rw [World.size_alloc] at k2
  replace k1 := k1.alloc (.cells #[.int .i64 qk, .string qt, .int .u32 (qm : Int), .bool qa, .bool qb, .int .i64 qu] 24)
  replace hs := hs.alloc (.cells #[.int .i64 qk, .string qt, .int .u32 (qm : Int), .bool qa, .bool qb, .int .i64 qu] 24)
  replace hB := hB.alloc hB.size (.cells #[.int .i64 qk, .string qt, .int .u32 (qm : Int), .bool qa, .bool qb, .int .i64 qu] 24)
  go_enter Try.func4, Try.ntmps4
  have fk1 := k1.all6.1
  have fk2 := k2.all6.1
  go_wp2_with fail
  refine (awake_any KC _).mono ?_
  rintro e w2 ⟨rfl, hb⟩
  clear fk1 fk2
  replace k1 := k1.call hb
  replace k2 := k2.call hb
  replace hs := hs.below hb
  replace hB := hB.trans (hb.mono hB.size)
  clear hb
  have fk1 := k1.all6.1
  have fk2 := k2.all6.1
  go_wp2_with fail
  refine (HW1.out _).mono ?_
  rintro e w3 ⟨A3, c3, rfl, hx, hb⟩
  clear fk1 fk2
  replace k1 := k1.call hb
  replace k2 := k2.call hb
  replace hs := hs.below hb
  replace hB := hB.trans (hb.mono hB.size)
  clear hb
  have fk1 := k1.all6.1
  have fk2 := k2.all6.1
  go_wp2_with fail
  refine (HW2.out _).mono ?_
  rintro e w4 ⟨A4, c4, rfl, hy, hb⟩
  clear fk1 fk2
  replace k1 := k1.call hb
  replace k2 := k2.call hb
  replace hs := hs.below hb
  replace hx := hx.below hb
  replace hB := hB.trans (hb.mono hB.size)
  clear hb
  obtain ⟨yi, hyi⟩ : ∃ yi : Int, (ye : Int) = yi := ⟨_, rfl⟩
  rw [hyi]
  have HYI := Lib.hid hyi
  clear hyi
  have fk1 := k1.all6.1
  have fk2 := k2.all6.1
  go_wp2_with fail
  refine (HAp.out _ A3 c3 hx).mono ?_
  rintro e w5 ⟨rfl, hb⟩
  clear fk1 fk2
  replace k1 := k1.call hb
  replace k2 := k2.call hb
  replace hs := hs.below hb
  replace hx := hx.below hb
  replace hy := hy.below hb
  replace hB := hB.trans (hb.mono hB.size)
  clear hb
  have k5 := Box.new w5 [.int .i64 pk, .string pt, .int .u32 (pm : Int), .bool pa, .bool pb, .int .i64 pu] 24
  replace k1 := k1.alloc (.cells #[.int .i64 pk, .string pt, .int .u32 (pm : Int), .bool pa, .bool pb, .int .i64 pu] 24)
  replace k2 := k2.alloc (.cells #[.int .i64 pk, .string pt, .int .u32 (pm : Int), .bool pa, .bool pb, .int .i64 pu] 24)
  replace hs := hs.alloc (.cells #[.int .i64 pk, .string pt, .int .u32 (pm : Int), .bool pa, .bool pb, .int .i64 pu] 24)
  replace hx := hx.alloc (.cells #[.int .i64 pk, .string pt, .int .u32 (pm : Int), .bool pa, .bool pb, .int .i64 pu] 24)
  replace hy := hy.alloc (.cells #[.int .i64 pk, .string pt, .int .u32 (pm : Int), .bool pa, .bool pb, .int .i64 pu] 24)
  replace hB := hB.alloc hB.size (.cells #[.int .i64 pk, .string pt, .int .u32 (pm : Int), .bool pa, .bool pb, .int .i64 pu] 24)
  have fk1 := k1.all6.1
  have fk2 := k2.all6.1
  have fk5 := k5.all6.1
  go_wp2_with fail
  refine (HCp.out _ A3 c3 hx).mono ?_
  rintro e w6 ⟨rfl, hb⟩
  clear fk1 fk2 fk5
  replace k1 := k1.call hb
  replace k2 := k2.call hb
  replace hs := hs.below hb
  replace hx := hx.below hb
  replace hy := hy.below hb
  replace k5 := k5.call hb
  replace hB := hB.trans (hb.mono hB.size)
  clear hb
  have fk1 := k1.all6.1
  have fk2 := k2.all6.1
  have fk5 := k5.all6.1
  go_upto_region 11 with fail
  go_cut [90] (fun q W => q = .bool false ∧ Below w6.heap.size w6 W)
  case first =>
    have t1 := fun k => str_of (hx.drewN k)
    have t2 := fun k => str_of (hy.drewN k)
    by_cases hqr : rightSg ⟨qk, qt, qm, qa, qb, qu⟩ = true
    · have hy0 := hq0.out hqr
      obtain rfl : yi = 0 := by rw [← HYI.out, hy0]; rfl
      by_cases hpq : pk = qk
      · obtain ⟨hYY, _, hiff⟩ := hinj.out hqr hpq
        subst hpq
        have hxy : (X == Y) = decide ((⟨pk, pt, pm, pa, pb, pu⟩ : Sg) = ⟨pk, qt, qm, qa, qb, qu⟩) := by rw [Bool.eq_iff_iff, beq_iff_eq, decide_eq_true_eq, hYY]; exact hiff
        have heq : ∀ W, (binOp .eql 24 (.agg #[.int .i64 pk, .string pt, .int .u32 (pm : Int), .bool pa, .bool pb, .int .i64 pu]) (.agg #[.int .i64 pk, .string qt, .int .u32 (qm : Int), .bool qa, .bool qb, .int .i64 qu])).run Try.prog W = .ok (.bool (X == Y)) W := fun W => by
          have := eqSg ⟨pk, pt, pm, pa, pb, pu⟩ ⟨pk, qt, qm, qa, qb, qu⟩ W
          rwa [← hxy] at this
        clear hYY hiff hxy hy0 hqr
        go_quiet (fail)
        go_wp2_with fail
        go_meet
        exact ⟨by first | rfl | (simp; done), below_drewN (Below.refl _ _) _⟩
      · have gk : (pk == qk) = false := by rw [beq_eq_false_iff_ne]; exact hpq
        have heq : ∀ W, (binOp .eql 24 (.agg #[.int .i64 pk, .string pt, .int .u32 (pm : Int), .bool pa, .bool pb, .int .i64 pu]) (.agg #[.int .i64 qk, .string qt, .int .u32 (qm : Int), .bool qa, .bool qb, .int .i64 qu])).run Try.prog W = .ok (.bool false) W := fun W => by
          have := eqSg ⟨pk, pt, pm, pa, pb, pu⟩ ⟨qk, qt, qm, qa, qb, qu⟩ W
          rwa [decide_eq_false (fun e => hpq ((Sg.eq_iff _ _).1 e).1)] at this
        clear hy0 hpq hqr
        clear fk1 fk2 fk5
        refine wp_region_held_drew (S := (fun W => (W.cell? ⟨w.heap.size, 0, none⟩ = some (.int .i64 pk) ∧ W.cell? ⟨w.heap.size, 1, none⟩ = some (.string pt) ∧ W.cell? ⟨w.heap.size, 2, none⟩ = some (.int .u32 (pm : Int)) ∧ W.cell? ⟨w.heap.size, 3, none⟩ = some (.bool pa) ∧ W.cell? ⟨w.heap.size, 4, none⟩ = some (.bool pb) ∧ W.cell? ⟨w.heap.size, 5, none⟩ = some (.int .i64 pu)) ∧ W.cell? ⟨(w.heap.size + 1), 0, none⟩ = some (.int .i64 qk) ∧ W.cell? ⟨(w.heap.size + 1), 1, none⟩ = some (.string qt) ∧ W.cell? ⟨(w.heap.size + 1), 2, none⟩ = some (.int .u32 (qm : Int)) ∧ W.cell? ⟨(w.heap.size + 1), 3, none⟩ = some (.bool qa) ∧ W.cell? ⟨(w.heap.size + 1), 4, none⟩ = some (.bool qb) ∧ W.cell? ⟨(w.heap.size + 1), 5, none⟩ = some (.int .i64 qu))) (by kernel_rfl) ⟨k1.all6.1, k2.all6.1⟩ (fun hHeld => ?_)
        refine wpAnyH_take (i := 0) (v := ?vD0) rfl (by kernel_rfl) (by kernel_rfl) (by kernel_rfl) (fun _ _ _ h => h) (Or.inl ⟨by rfl, ?hD0⟩) (by assumption) ?rD0
        case hD0 => (intro w hSw; (try dsimp only at hSw); go_simp; try with_reducible rfl)
        change wpAnyH _ _ _ _ _ _ _ (Act.put _ (some 71) _) _
        simp only [Act.put, List.setIfInBounds_toArray, List.set_cons_zero, List.set_cons_succ]
        refine wpAnyH_take (i := 1) (v := ?vD1) rfl (by kernel_rfl) (by kernel_rfl) (by kernel_rfl) (fun _ _ _ h => h) (Or.inl ⟨by rfl, ?hD1⟩) (by assumption) ?rD1
        case hD1 => (intro w hSw; (try dsimp only at hSw); go_simp; try with_reducible rfl)
        change wpAnyH _ _ _ _ _ _ _ (Act.put _ (some 72) _) _
        simp only [Act.put, List.setIfInBounds_toArray, List.set_cons_zero, List.set_cons_succ]
        refine wpAnyH_take (i := 2) (v := ?vD2) rfl (by kernel_rfl) (by kernel_rfl) (by kernel_rfl) (fun _ _ _ h => h) (Or.inl ⟨by rfl, ?hD2⟩) (by assumption) ?rD2
        case hD2 => (intro w hSw; (try dsimp only at hSw); go_simp; try with_reducible rfl)
        change wpAnyH _ _ _ _ _ _ _ (Act.put _ (some 73) _) _
        simp only [Act.put, List.setIfInBounds_toArray, List.set_cons_zero, List.set_cons_succ]
        refine wpAnyH_take (i := 3) (v := ?vD3) rfl (by kernel_rfl) (by kernel_rfl) (by kernel_rfl) (fun _ _ _ h => h) (Or.inl ⟨by rfl, ?hD3⟩) (by assumption) ?rD3
        case hD3 => (intro w hSw; (try dsimp only at hSw); go_simp; try with_reducible rfl)
        change wpAnyH _ _ _ _ _ _ _ (Act.put _ (some 74) _) _
        simp only [Act.put, List.setIfInBounds_toArray, List.set_cons_zero, List.set_cons_succ]
        refine wpAnyH_take (i := 4) (v := ?vD4) rfl (by kernel_rfl) (by kernel_rfl) (by kernel_rfl) (fun _ _ _ h => h) (Or.inl ⟨by rfl, ?hD4⟩) (by assumption) ?rD4
        case hD4 => (intro w hSw; (try dsimp only at hSw); go_simp; try with_reducible rfl)
        change wpAnyH _ _ _ _ _ _ _ (Act.put _ (some 75) _) _
        simp only [Act.put, List.setIfInBounds_toArray, List.set_cons_zero, List.set_cons_succ]
        refine wpAnyH_take (i := 5) (v := ?vD5) rfl (by kernel_rfl) (by kernel_rfl) (by kernel_rfl) (fun _ _ _ h => h) (Or.inl ⟨by rfl, ?hD5⟩) (by assumption) ?rD5
        case hD5 => (intro w hSw; (try dsimp only at hSw); go_simp; try with_reducible rfl)
        change wpAnyH _ _ _ _ _ _ _ (Act.put _ (some 76) _) _
        simp only [Act.put, List.setIfInBounds_toArray, List.set_cons_zero, List.set_cons_succ]
        refine wpAnyH_take (i := 6) (v := ?vD6) rfl (by kernel_rfl) (by kernel_rfl) (by kernel_rfl) (fun _ _ _ h => h) (Or.inl ⟨by rfl, ?hD6⟩) (by assumption) ?rD6
        case hD6 => (intro w hSw; (try dsimp only at hSw); go_simp; try with_reducible rfl)
        change wpAnyH _ _ _ _ _ _ _ (Act.put _ (some 77) _) _
        simp only [Act.put, List.setIfInBounds_toArray, List.set_cons_zero, List.set_cons_succ]
        refine wpAnyH_take (i := 7) (v := ?vD7) rfl (by kernel_rfl) (by kernel_rfl) (by kernel_rfl) (fun _ _ _ h => h) (Or.inl ⟨by rfl, ?hD7⟩) (by assumption) ?rD7
        case hD7 => (intro w hSw; (try dsimp only at hSw); go_simp; try with_reducible rfl)
        change wpAnyH _ _ _ _ _ _ _ (Act.put _ (some 78) _) _
        simp only [Act.put, List.setIfInBounds_toArray, List.set_cons_zero, List.set_cons_succ]
        refine wpAnyH_take (i := 8) (v := ?vD8) rfl (by kernel_rfl) (by kernel_rfl) (by kernel_rfl) (fun _ _ _ h => h) (Or.inl ⟨by rfl, ?hD8⟩) (by assumption) ?rD8
        case hD8 => (intro w hSw; (try dsimp only at hSw); go_simp; try with_reducible rfl)
        change wpAnyH _ _ _ _ _ _ _ (Act.put _ (some 79) _) _
        simp only [Act.put, List.setIfInBounds_toArray, List.set_cons_zero, List.set_cons_succ]
        refine wpAnyH_take (i := 9) (v := ?vD9) rfl (by kernel_rfl) (by kernel_rfl) (by kernel_rfl) (fun _ _ _ h => h) (Or.inl ⟨by rfl, ?hD9⟩) (by assumption) ?rD9
        case hD9 => (intro w hSw; (try dsimp only at hSw); go_simp; try with_reducible rfl)
        change wpAnyH _ _ _ _ _ _ _ (Act.put _ (some 80) _) _
        simp only [Act.put, List.setIfInBounds_toArray, List.set_cons_zero, List.set_cons_succ]
        refine wpAnyH_take (i := 10) (v := undef) rfl (by kernel_rfl) (by kernel_rfl) (by kernel_rfl) (fun _ _ _ h => h) (Or.inr ⟨by rfl, rfl⟩) (by assumption) ?_
        change wpAnyH _ _ _ _ _ _ _ (Act.put _ (some 81) _) _
        simp only [Act.put, List.setIfInBounds_toArray, List.set_cons_zero, List.set_cons_succ]
        refine wpAnyH_take (i := 11) (v := undef) rfl (by kernel_rfl) (by kernel_rfl) (by kernel_rfl) (fun _ _ _ h => h) (Or.inr ⟨by rfl, rfl⟩) (by assumption) ?_
        change wpAnyH _ _ _ _ _ _ _ (Act.put _ (some 82) _) _
        simp only [Act.put, List.setIfInBounds_toArray, List.set_cons_zero, List.set_cons_succ]
        refine wpAnyH_take (i := 12) (v := undef) rfl (by kernel_rfl) (by kernel_rfl) (by kernel_rfl) (fun _ _ _ h => h) (Or.inr ⟨by rfl, rfl⟩) (by assumption) ?_
        change wpAnyH _ _ _ _ _ _ _ (Act.put _ (some 83) _) _
        simp only [Act.put, List.setIfInBounds_toArray, List.set_cons_zero, List.set_cons_succ]
        refine wpAnyH_take (i := 13) (v := undef) rfl (by kernel_rfl) (by kernel_rfl) (by kernel_rfl) (fun _ _ _ h => h) (Or.inr ⟨by rfl, rfl⟩) (by assumption) ?_
        change wpAnyH _ _ _ _ _ _ _ (Act.put _ (some 84) _) _
        simp only [Act.put, List.setIfInBounds_toArray, List.set_cons_zero, List.set_cons_succ]
        refine wpAnyH_take (i := 14) (v := undef) rfl (by kernel_rfl) (by kernel_rfl) (by kernel_rfl) (fun _ _ _ h => h) (Or.inr ⟨by rfl, rfl⟩) (by assumption) ?_
        change wpAnyH _ _ _ _ _ _ _ (Act.put _ (some 85) _) _
        simp only [Act.put, List.setIfInBounds_toArray, List.set_cons_zero, List.set_cons_succ]
        refine wpAnyH_take (i := 15) (v := undef) rfl (by kernel_rfl) (by kernel_rfl) (by kernel_rfl) (fun _ _ _ h => h) (Or.inr ⟨by rfl, rfl⟩) (by assumption) ?_
        change wpAnyH _ _ _ _ _ _ _ (Act.put _ (some 86) _) _
        simp only [Act.put, List.setIfInBounds_toArray, List.set_cons_zero, List.set_cons_succ]
        refine wpAnyH_take (i := 16) (v := undef) rfl (by kernel_rfl) (by kernel_rfl) (by kernel_rfl) (fun _ _ _ h => h) (Or.inr ⟨by rfl, rfl⟩) (by assumption) ?_
        change wpAnyH _ _ _ _ _ _ _ (Act.put _ (some 87) _) _
        simp only [Act.put, List.setIfInBounds_toArray, List.set_cons_zero, List.set_cons_succ]
        refine wpAnyH_take (i := 17) (v := undef) rfl (by kernel_rfl) (by kernel_rfl) (by kernel_rfl) (fun _ _ _ h => h) (Or.inr ⟨by rfl, rfl⟩) (by assumption) ?_
        change wpAnyH _ _ _ _ _ _ _ (Act.put _ (some 88) _) _
        simp only [Act.put, List.setIfInBounds_toArray, List.set_cons_zero, List.set_cons_succ]
        refine wpAnyH_take (i := 18) (v := undef) rfl (by kernel_rfl) (by kernel_rfl) (by kernel_rfl) (fun _ _ _ h => h) (Or.inr ⟨by rfl, rfl⟩) (by assumption) ?_
        change wpAnyH _ _ _ _ _ _ _ (Act.put _ (some 89) _) _
        simp only [Act.put, List.setIfInBounds_toArray, List.set_cons_zero, List.set_cons_succ]
        refine wpAnyH_take (i := 19) (v := ?vD19) rfl (by kernel_rfl) (by kernel_rfl) (by kernel_rfl) (fun _ _ _ h => h) (Or.inl ⟨by rfl, ?hD19⟩) (by assumption) ?rD19
        case hD19 => (intro w hSw; (try dsimp only at hSw); go_simp; try with_reducible rfl)
        change wpAnyH _ _ _ _ _ _ _ (Act.put _ (some 90) _) _
        simp only [Act.put, List.setIfInBounds_toArray, List.set_cons_zero, List.set_cons_succ]
        refine wpAnyH_done (by kernel_rfl) ?_ _
        go_wp2_with fail
        go_meet
        exact ⟨by first | rfl | (simp; done), (Below.refl _ w6).drew⟩
    · have hy0 := hq1.out hqr
      obtain rfl : yi = 1 := by rw [← HYI.out, hy0]; rfl
      clear hy0 hqr
      refine wp_region_held_drew (S := fun _ => True) (by kernel_rfl) trivial (fun hHeld => ?_)
      refine wpAnyH_take (i := 0) (v := ?vF0) rfl (by kernel_rfl) (by kernel_rfl) (by kernel_rfl) (fun _ _ _ h => h) (Or.inl ⟨by rfl, ?hF0⟩) (by assumption) ?rF0
      case hF0 => (intro w hSw; (try dsimp only at hSw); go_simp; try with_reducible rfl)
      change wpAnyH _ _ _ _ _ _ _ (Act.put _ (some 71) _) _
      simp only [Act.put, List.setIfInBounds_toArray, List.set_cons_zero, List.set_cons_succ]
      refine wpAnyH_take (i := 1) (v := ?vF1) rfl (by kernel_rfl) (by kernel_rfl) (by kernel_rfl) (fun _ _ _ h => h) (Or.inl ⟨by rfl, ?hF1⟩) (by assumption) ?rF1
      case hF1 => (intro w hSw; (try dsimp only at hSw); go_simp; try with_reducible rfl)
      change wpAnyH _ _ _ _ _ _ _ (Act.put _ (some 72) _) _
      simp only [Act.put, List.setIfInBounds_toArray, List.set_cons_zero, List.set_cons_succ]
      refine wpAnyH_take (i := 2) (v := ?vF2) rfl (by kernel_rfl) (by kernel_rfl) (by kernel_rfl) (fun _ _ _ h => h) (Or.inl ⟨by rfl, ?hF2⟩) (by assumption) ?rF2
      case hF2 => (intro w hSw; (try dsimp only at hSw); go_simp; try with_reducible rfl)
      change wpAnyH _ _ _ _ _ _ _ (Act.put _ (some 73) _) _
      simp only [Act.put, List.setIfInBounds_toArray, List.set_cons_zero, List.set_cons_succ]
      refine wpAnyH_take (i := 3) (v := undef) rfl (by kernel_rfl) (by kernel_rfl) (by kernel_rfl) (fun _ _ _ h => h) (Or.inr ⟨by rfl, rfl⟩) (by assumption) ?_
      change wpAnyH _ _ _ _ _ _ _ (Act.put _ (some 74) _) _
      simp only [Act.put, List.setIfInBounds_toArray, List.set_cons_zero, List.set_cons_succ]
      refine wpAnyH_take (i := 4) (v := undef) rfl (by kernel_rfl) (by kernel_rfl) (by kernel_rfl) (fun _ _ _ h => h) (Or.inr ⟨by rfl, rfl⟩) (by assumption) ?_
      change wpAnyH _ _ _ _ _ _ _ (Act.put _ (some 75) _) _
      simp only [Act.put, List.setIfInBounds_toArray, List.set_cons_zero, List.set_cons_succ]
      refine wpAnyH_take (i := 5) (v := undef) rfl (by kernel_rfl) (by kernel_rfl) (by kernel_rfl) (fun _ _ _ h => h) (Or.inr ⟨by rfl, rfl⟩) (by assumption) ?_
      change wpAnyH _ _ _ _ _ _ _ (Act.put _ (some 76) _) _
      simp only [Act.put, List.setIfInBounds_toArray, List.set_cons_zero, List.set_cons_succ]
      refine wpAnyH_take (i := 6) (v := undef) rfl (by kernel_rfl) (by kernel_rfl) (by kernel_rfl) (fun _ _ _ h => h) (Or.inr ⟨by rfl, rfl⟩) (by assumption) ?_
      change wpAnyH _ _ _ _ _ _ _ (Act.put _ (some 77) _) _
      simp only [Act.put, List.setIfInBounds_toArray, List.set_cons_zero, List.set_cons_succ]
      refine wpAnyH_take (i := 7) (v := undef) rfl (by kernel_rfl) (by kernel_rfl) (by kernel_rfl) (fun _ _ _ h => h) (Or.inr ⟨by rfl, rfl⟩) (by assumption) ?_
      change wpAnyH _ _ _ _ _ _ _ (Act.put _ (some 78) _) _
      simp only [Act.put, List.setIfInBounds_toArray, List.set_cons_zero, List.set_cons_succ]
      refine wpAnyH_take (i := 8) (v := ?vF8) rfl (by kernel_rfl) (by kernel_rfl) (by kernel_rfl) (fun _ _ _ h => h) (Or.inl ⟨by rfl, ?hF8⟩) (by assumption) ?rF8
      case hF8 => (intro w hSw; (try dsimp only at hSw); go_simp; try with_reducible rfl)
      change wpAnyH _ _ _ _ _ _ _ (Act.put _ (some 79) _) _
      simp only [Act.put, List.setIfInBounds_toArray, List.set_cons_zero, List.set_cons_succ]
      refine wpAnyH_take (i := 9) (v := ?vF9) rfl (by kernel_rfl) (by kernel_rfl) (by kernel_rfl) (fun _ _ _ h => h) (Or.inl ⟨by rfl, ?hF9⟩) (by assumption) ?rF9
      case hF9 => (intro w hSw; (try dsimp only at hSw); go_simp; try with_reducible rfl)
      change wpAnyH _ _ _ _ _ _ _ (Act.put _ (some 80) _) _
      simp only [Act.put, List.setIfInBounds_toArray, List.set_cons_zero, List.set_cons_succ]
      refine wpAnyH_take (i := 10) (v := undef) rfl (by kernel_rfl) (by kernel_rfl) (by kernel_rfl) (fun _ _ _ h => h) (Or.inr ⟨by rfl, rfl⟩) (by assumption) ?_
      change wpAnyH _ _ _ _ _ _ _ (Act.put _ (some 81) _) _
      simp only [Act.put, List.setIfInBounds_toArray, List.set_cons_zero, List.set_cons_succ]
      refine wpAnyH_take (i := 11) (v := undef) rfl (by kernel_rfl) (by kernel_rfl) (by kernel_rfl) (fun _ _ _ h => h) (Or.inr ⟨by rfl, rfl⟩) (by assumption) ?_
      change wpAnyH _ _ _ _ _ _ _ (Act.put _ (some 82) _) _
      simp only [Act.put, List.setIfInBounds_toArray, List.set_cons_zero, List.set_cons_succ]
      refine wpAnyH_take (i := 12) (v := undef) rfl (by kernel_rfl) (by kernel_rfl) (by kernel_rfl) (fun _ _ _ h => h) (Or.inr ⟨by rfl, rfl⟩) (by assumption) ?_
      change wpAnyH _ _ _ _ _ _ _ (Act.put _ (some 83) _) _
      simp only [Act.put, List.setIfInBounds_toArray, List.set_cons_zero, List.set_cons_succ]
      refine wpAnyH_take (i := 13) (v := undef) rfl (by kernel_rfl) (by kernel_rfl) (by kernel_rfl) (fun _ _ _ h => h) (Or.inr ⟨by rfl, rfl⟩) (by assumption) ?_
      change wpAnyH _ _ _ _ _ _ _ (Act.put _ (some 84) _) _
      simp only [Act.put, List.setIfInBounds_toArray, List.set_cons_zero, List.set_cons_succ]
      refine wpAnyH_take (i := 14) (v := undef) rfl (by kernel_rfl) (by kernel_rfl) (by kernel_rfl) (fun _ _ _ h => h) (Or.inr ⟨by rfl, rfl⟩) (by assumption) ?_
      change wpAnyH _ _ _ _ _ _ _ (Act.put _ (some 85) _) _
      simp only [Act.put, List.setIfInBounds_toArray, List.set_cons_zero, List.set_cons_succ]
      refine wpAnyH_take (i := 15) (v := undef) rfl (by kernel_rfl) (by kernel_rfl) (by kernel_rfl) (fun _ _ _ h => h) (Or.inr ⟨by rfl, rfl⟩) (by assumption) ?_
      change wpAnyH _ _ _ _ _ _ _ (Act.put _ (some 86) _) _
      simp only [Act.put, List.setIfInBounds_toArray, List.set_cons_zero, List.set_cons_succ]
      refine wpAnyH_take (i := 16) (v := undef) rfl (by kernel_rfl) (by kernel_rfl) (by kernel_rfl) (fun _ _ _ h => h) (Or.inr ⟨by rfl, rfl⟩) (by assumption) ?_
      change wpAnyH _ _ _ _ _ _ _ (Act.put _ (some 87) _) _
      simp only [Act.put, List.setIfInBounds_toArray, List.set_cons_zero, List.set_cons_succ]
      refine wpAnyH_take (i := 17) (v := undef) rfl (by kernel_rfl) (by kernel_rfl) (by kernel_rfl) (fun _ _ _ h => h) (Or.inr ⟨by rfl, rfl⟩) (by assumption) ?_
      change wpAnyH _ _ _ _ _ _ _ (Act.put _ (some 88) _) _
      simp only [Act.put, List.setIfInBounds_toArray, List.set_cons_zero, List.set_cons_succ]
      refine wpAnyH_take (i := 18) (v := undef) rfl (by kernel_rfl) (by kernel_rfl) (by kernel_rfl) (fun _ _ _ h => h) (Or.inr ⟨by rfl, rfl⟩) (by assumption) ?_
      change wpAnyH _ _ _ _ _ _ _ (Act.put _ (some 89) _) _
      simp only [Act.put, List.setIfInBounds_toArray, List.set_cons_zero, List.set_cons_succ]
      refine wpAnyH_take (i := 19) (v := ?vF19) rfl (by kernel_rfl) (by kernel_rfl) (by kernel_rfl) (fun _ _ _ h => h) (Or.inl ⟨by rfl, ?hF19⟩) (by assumption) ?rF19
      case hF19 => (intro w hSw; (try dsimp only at hSw); go_simp; try with_reducible rfl)
      change wpAnyH _ _ _ _ _ _ _ (Act.put _ (some 90) _) _
      simp only [Act.put, List.setIfInBounds_toArray, List.set_cons_zero, List.set_cons_succ]
      refine wpAnyH_done (by kernel_rfl) ?_ _
      go_wp2_with fail
      go_meet
      exact ⟨by first | rfl | (simp; done), (Below.refl _ w6).drew⟩
  case rest =>
    obtain ⟨rfl, hb⟩ := hcut
    clear fk1 fk2 fk5
    replace k1 := k1.call hb
    replace k2 := k2.call hb
    replace hs := hs.below hb
    replace hx := hx.below hb
    replace hy := hy.below hb
    replace k5 := k5.call hb
    replace hB := hB.trans (hb.mono hB.size)
    clear hb
    clear hx hy k1 k2 k5
    go_wp2_with fail
    refine (HA.out _ hs).mono ?_
    rintro e w20 ⟨rfl, hb⟩
    replace hs := hs.below hb
    replace hB := hB.trans (hb.mono hB.size)
    clear hb
    have k20 := Box.new w20 [.int .i64 rk, .string rt, .int .u32 (rm : Int), .bool ra, .bool rb, .int .i64 ru] 24
    replace hs := hs.alloc (.cells #[.int .i64 rk, .string rt, .int .u32 (rm : Int), .bool ra, .bool rb, .int .i64 ru] 24)
    replace hB := hB.alloc hB.size (.cells #[.int .i64 rk, .string rt, .int .u32 (rm : Int), .bool ra, .bool rb, .int .i64 ru] 24)
    have fk20 := k20.all6.1
    by_cases he : er = 0
    · subst he
      obtain ⟨hrr, hrk⟩ := hsr.out rfl
      obtain ⟨hr1, hr2, hr3, hr4⟩ := right_small hrr
      simp only at hr1 hr2 hr3 hr4
      obtain rfl : Kd = rk := hrk.symm
      have hokr : SgOk ⟨Kd, rt, rm, ra, rb, ru⟩ := ⟨by simp only; omega, by simp only; omega, hK, wf_i64 (by simp only; omega) (by simp only; omega)⟩
      have HWr := Lib.hid (fun W => KC.write ⟨Kd, rt, rm, ra, rb, ru⟩ W hokr)
      have HXr := Lib.hid (fun W => KC.right ⟨Kd, rt, rm, ra, rb, ru⟩ W hokr)
      have e1 : writeSB ⟨Kd, rt, rm, ra, rb, ru⟩ = writeSg ⟨Kd, rt, rm, ra, rb, ru⟩ := by unfold writeSB; rw [hrr]; rfl
      have e2 : writeSE ⟨Kd, rt, rm, ra, rb, ru⟩ = 0 := by unfold writeSE; rw [hrr]; rfl
      have hrw := sign_read_write hrr
      simp only at hrw
      have hzl : (writeSg ⟨Kd, rt, rm, ra, rb, ru⟩).length ≤ 16 := writeSg_small hrr
      have HAr := Lib.hid (fun W A c h => KC.read Kd A (writeSg ⟨Kd, rt, rm, ra, rb, ru⟩).length c (writeSg ⟨Kd, rt, rm, ra, rb, ru⟩) W h (by omega) hK)
      rw [hrw.1, hrw.2] at HAr
      rw [e1, e2] at HWr
      rw [hrr] at HXr
      have hcn := hcan.out rfl
      have heqr : ∀ W, (binOp .eql 24 (.agg #[.int .i64 Kd, .string rt, .int .u32 (rm : Int), .bool ra, .bool rb, .int .i64 ru]) (.agg #[.int .i64 Kd, .string rt, .int .u32 (rm : Int), .bool ra, .bool rb, .int .i64 ru])).run Try.prog W = .ok (.bool true) W := fun W => by
        have := eqSg ⟨Kd, rt, rm, ra, rb, ru⟩ ⟨Kd, rt, rm, ra, rb, ru⟩ W
        rwa [decide_eq_true rfl] at this
      dsimp only [sgV] at HWr HXr HAr
      clear hrr e1 e2 hrw hokr hsr hcan hne hr1 hr2 hr3 hr4
      generalize writeSg ⟨Kd, rt, rm, ra, rb, ru⟩ = Z at *
      subst hcn
      go_wp2_with fail
      refine (HWr.out _).mono ?_
      rintro e w21 ⟨A21, c21, rfl, hz, hb⟩
      clear fk20
      replace hs := hs.below hb
      replace k20 := k20.call hb
      replace hB := hB.trans (hb.mono hB.size)
      clear hb
      have fk20 := k20.all6.1
      go_wp2_with fail
      refine (HAr.out _ A21 c21 hz).mono ?_
      rintro e w22 ⟨rfl, hb⟩
      clear fk20
      replace hs := hs.below hb
      replace k20 := k20.call hb
      replace hz := hz.below hb
      replace hB := hB.trans (hb.mono hB.size)
      clear hb
      have k22 := Box.new w22 [.int .i64 Kd, .string rt, .int .u32 (rm : Int), .bool ra, .bool rb, .int .i64 ru] 24
      replace hs := hs.alloc (.cells #[.int .i64 Kd, .string rt, .int .u32 (rm : Int), .bool ra, .bool rb, .int .i64 ru] 24)
      replace k20 := k20.alloc (.cells #[.int .i64 Kd, .string rt, .int .u32 (rm : Int), .bool ra, .bool rb, .int .i64 ru] 24)
      replace hz := hz.alloc (.cells #[.int .i64 Kd, .string rt, .int .u32 (rm : Int), .bool ra, .bool rb, .int .i64 ru] 24)
      replace hB := hB.alloc hB.size (.cells #[.int .i64 Kd, .string rt, .int .u32 (rm : Int), .bool ra, .bool rb, .int .i64 ru] 24)
      have fk20 := k20.all6.1
      have fk22 := k22.all6.1
      go_upto_region 18 with fail
      refine wp_region_held_drew (S := (fun W => (convert 25 9 (.slice A21 Z.length c21)).run Try.prog W = .ok (.string ⟨Z.toArray⟩) W ∧ (convert 25 9 (.slice A n c)).run Try.prog W = .ok (.string ⟨s.toArray⟩) W ∧ (W.cell? ⟨w20.heap.size, 0, none⟩ = some (.int .i64 Kd) ∧ W.cell? ⟨w20.heap.size, 1, none⟩ = some (.string rt) ∧ W.cell? ⟨w20.heap.size, 2, none⟩ = some (.int .u32 (rm : Int)) ∧ W.cell? ⟨w20.heap.size, 3, none⟩ = some (.bool ra) ∧ W.cell? ⟨w20.heap.size, 4, none⟩ = some (.bool rb) ∧ W.cell? ⟨w20.heap.size, 5, none⟩ = some (.int .i64 ru)) ∧ W.cell? ⟨w22.heap.size, 0, none⟩ = some (.int .i64 Kd) ∧ W.cell? ⟨w22.heap.size, 1, none⟩ = some (.string rt) ∧ W.cell? ⟨w22.heap.size, 2, none⟩ = some (.int .u32 (rm : Int)) ∧ W.cell? ⟨w22.heap.size, 3, none⟩ = some (.bool ra) ∧ W.cell? ⟨w22.heap.size, 4, none⟩ = some (.bool rb) ∧ W.cell? ⟨w22.heap.size, 5, none⟩ = some (.int .i64 ru))) (by kernel_rfl) ⟨str_of hz.drew, str_of hs.drew, k20.all6.1, k22.all6.1⟩ (fun hHeld => ?_)
      clear fk20 fk22
      refine wpAnyH_take (i := 0) (v := ?vL0) rfl (by kernel_rfl) (by kernel_rfl) (by kernel_rfl) (fun _ _ _ h => h) (Or.inl ⟨by rfl, ?hL0⟩) (by assumption) ?rL0
      case hL0 => (intro w hSw; (try dsimp only at hSw); go_simp; try with_reducible rfl)
      change wpAnyH _ _ _ _ _ _ _ (Act.put _ (some 119) _) _
      simp only [Act.put, List.setIfInBounds_toArray, List.set_cons_zero, List.set_cons_succ]
      refine wpAnyH_take (i := 1) (v := ?vL1) rfl (by kernel_rfl) (by kernel_rfl) (by kernel_rfl) (fun _ _ _ h => h) (Or.inl ⟨by rfl, ?hL1⟩) (by assumption) ?rL1
      case hL1 => (intro w hSw; (try dsimp only at hSw); go_simp; try with_reducible rfl)
      change wpAnyH _ _ _ _ _ _ _ (Act.put _ (some 120) _) _
      simp only [Act.put, List.setIfInBounds_toArray, List.set_cons_zero, List.set_cons_succ]
      refine wpAnyH_take (i := 2) (v := ?vL2) rfl (by kernel_rfl) (by kernel_rfl) (by kernel_rfl) (fun _ _ _ h => h) (Or.inl ⟨by rfl, ?hL2⟩) (by assumption) ?rL2
      case hL2 => (intro w hSw; (try dsimp only at hSw); go_simp; try with_reducible rfl)
      change wpAnyH _ _ _ _ _ _ _ (Act.put _ (some 121) _) _
      simp only [Act.put, List.setIfInBounds_toArray, List.set_cons_zero, List.set_cons_succ]
      refine wpAnyH_take (i := 3) (v := ?vL3) rfl (by kernel_rfl) (by kernel_rfl) (by kernel_rfl) (fun _ _ _ h => h) (Or.inl ⟨by rfl, ?hL3⟩) (by assumption) ?rL3
      case hL3 => (intro w hSw; (try dsimp only at hSw); go_simp; try with_reducible rfl)
      change wpAnyH _ _ _ _ _ _ _ (Act.put _ (some 122) _) _
      simp only [Act.put, List.setIfInBounds_toArray, List.set_cons_zero, List.set_cons_succ]
      refine wpAnyH_take (i := 4) (v := ?vL4) rfl (by kernel_rfl) (by kernel_rfl) (by kernel_rfl) (fun _ _ _ h => h) (Or.inl ⟨by rfl, ?hL4⟩) (by assumption) ?rL4
      case hL4 => (intro w hSw; (try dsimp only at hSw); go_simp; try with_reducible rfl)
      change wpAnyH _ _ _ _ _ _ _ (Act.put _ (some 123) _) _
      simp only [Act.put, List.setIfInBounds_toArray, List.set_cons_zero, List.set_cons_succ]
      refine wpAnyH_take (i := 5) (v := ?vL5) rfl (by kernel_rfl) (by kernel_rfl) (by kernel_rfl) (fun _ _ _ h => h) (Or.inl ⟨by rfl, ?hL5⟩) (by assumption) ?rL5
      case hL5 => (intro w hSw; (try dsimp only at hSw); go_simp; try with_reducible rfl)
      change wpAnyH _ _ _ _ _ _ _ (Act.put _ (some 124) _) _
      simp only [Act.put, List.setIfInBounds_toArray, List.set_cons_zero, List.set_cons_succ]
      refine wpAnyH_take (i := 6) (v := ?vL6) rfl (by kernel_rfl) (by kernel_rfl) (by kernel_rfl) (fun _ _ _ h => h) (Or.inl ⟨by rfl, ?hL6⟩) (by assumption) ?rL6
      case hL6 => (intro w hSw; (try dsimp only at hSw); go_simp; try with_reducible rfl)
      change wpAnyH _ _ _ _ _ _ _ (Act.put _ (some 125) _) _
      simp only [Act.put, List.setIfInBounds_toArray, List.set_cons_zero, List.set_cons_succ]
      refine wpAnyH_take (i := 7) (v := ?vL7) rfl (by kernel_rfl) (by kernel_rfl) (by kernel_rfl) (fun _ _ _ h => h) (Or.inl ⟨by rfl, ?hL7⟩) (by assumption) ?rL7
      case hL7 => (intro w hSw; (try dsimp only at hSw); go_simp; try with_reducible rfl)
      change wpAnyH _ _ _ _ _ _ _ (Act.put _ (some 126) _) _
      simp only [Act.put, List.setIfInBounds_toArray, List.set_cons_zero, List.set_cons_succ]
      refine wpAnyH_ready (rs := [8]) (by kernel_rfl) (by simp) ?_
      refine AllReadyH.cons rfl (fun K hK => ?_) AllReadyH.nil
      go_simp
      refine (HXr.out _).mono ?_
      rintro e wa ⟨rfl, hba⟩
      go_wp2_with fail
      have hza := Bs.below (w := (w22.alloc (.cells #[.int .i64 Kd, .string rt, .int .u32 (rm : Int), .bool ra, .bool rb, .int .i64 ru] 24)).drew) hz.drew hba
      have hsa := Bs.below (w := (w22.alloc (.cells #[.int .i64 Kd, .string rt, .int .u32 (rm : Int), .bool ra, .bool rb, .int .i64 ru] 24)).drew) hs.drew hba
      have k20a := Box.call (w := (w22.alloc (.cells #[.int .i64 Kd, .string rt, .int .u32 (rm : Int), .bool ra, .bool rb, .int .i64 ru] 24)).drew) k20 hba
      have k22a := Box.call (w := (w22.alloc (.cells #[.int .i64 Kd, .string rt, .int .u32 (rm : Int), .bool ra, .bool rb, .int .i64 ru] 24)).drew) k22 hba
      refine hK.out _ _ ?_ (fun hHeld => ?_)
      · exact ⟨str_of hza, str_of hsa, k20a.all6.1, k22a.all6.1⟩
      clear hK K
      try simp only [Act.put, List.setIfInBounds_toArray, List.set_cons_zero, List.set_cons_succ]
      refine wpAnyH_take (i := 9) (v := ?vL9) rfl (by kernel_rfl) (by kernel_rfl) (by kernel_rfl) (fun _ _ _ h => h) (Or.inl ⟨by rfl, ?hL9⟩) (by assumption) ?rL9
      case hL9 => (intro w hSw; (try dsimp only at hSw); go_simp; try with_reducible rfl)
      change wpAnyH _ _ _ _ _ _ _ (Act.put _ (some 128) _) _
      simp only [Act.put, List.setIfInBounds_toArray, List.set_cons_zero, List.set_cons_succ]
      refine wpAnyH_take (i := 10) (v := ?vL10) rfl (by kernel_rfl) (by kernel_rfl) (by kernel_rfl) (fun _ _ _ h => h) (Or.inl ⟨by rfl, ?hL10⟩) (by assumption) ?rL10
      case hL10 => (intro w hSw; (try dsimp only at hSw); go_simp; try with_reducible rfl)
      change wpAnyH _ _ _ _ _ _ _ (Act.put _ (some 129) _) _
      simp only [Act.put, List.setIfInBounds_toArray, List.set_cons_zero, List.set_cons_succ]
      refine wpAnyH_take (i := 11) (v := ?vL11) rfl (by kernel_rfl) (by kernel_rfl) (by kernel_rfl) (fun _ _ _ h => h) (Or.inl ⟨by rfl, ?hL11⟩) (by assumption) ?rL11
      case hL11 => (intro w hSw; (try dsimp only at hSw); go_simp; try with_reducible rfl)
      change wpAnyH _ _ _ _ _ _ _ (Act.put _ (some 130) _) _
      simp only [Act.put, List.setIfInBounds_toArray, List.set_cons_zero, List.set_cons_succ]
      refine wpAnyH_take (i := 12) (v := ?vL12) rfl (by kernel_rfl) (by kernel_rfl) (by kernel_rfl) (fun _ _ _ h => h) (Or.inl ⟨by rfl, ?hL12⟩) (by assumption) ?rL12
      case hL12 => (intro w hSw; (try dsimp only at hSw); go_simp; try with_reducible rfl)
      change wpAnyH _ _ _ _ _ _ _ (Act.put _ (some 131) _) _
      simp only [Act.put, List.setIfInBounds_toArray, List.set_cons_zero, List.set_cons_succ]
      refine wpAnyH_take (i := 13) (v := ?vL13) rfl (by kernel_rfl) (by kernel_rfl) (by kernel_rfl) (fun _ _ _ h => h) (Or.inl ⟨by rfl, ?hL13⟩) (by assumption) ?rL13
      case hL13 => (intro w hSw; (try dsimp only at hSw); go_simp; try with_reducible rfl)
      change wpAnyH _ _ _ _ _ _ _ (Act.put _ (some 132) _) _
      simp only [Act.put, List.setIfInBounds_toArray, List.set_cons_zero, List.set_cons_succ]
      refine wpAnyH_take (i := 14) (v := ?vL14) rfl (by kernel_rfl) (by kernel_rfl) (by kernel_rfl) (fun _ _ _ h => h) (Or.inl ⟨by rfl, ?hL14⟩) (by assumption) ?rL14
      case hL14 => (intro w hSw; (try dsimp only at hSw); go_simp; try with_reducible rfl)
      change wpAnyH _ _ _ _ _ _ _ (Act.put _ (some 133) _) _
      simp only [Act.put, List.setIfInBounds_toArray, List.set_cons_zero, List.set_cons_succ]
      refine wpAnyH_take (i := 15) (v := ?vL15) rfl (by kernel_rfl) (by kernel_rfl) (by kernel_rfl) (fun _ _ _ h => h) (Or.inl ⟨by rfl, ?hL15⟩) (by assumption) ?rL15
      case hL15 => (intro w hSw; (try dsimp only at hSw); go_simp; try with_reducible rfl)
      change wpAnyH _ _ _ _ _ _ _ (Act.put _ (some 134) _) _
      simp only [Act.put, List.setIfInBounds_toArray, List.set_cons_zero, List.set_cons_succ]
      refine wpAnyH_take (i := 16) (v := ?vL16) rfl (by kernel_rfl) (by kernel_rfl) (by kernel_rfl) (fun _ _ _ h => h) (Or.inl ⟨by rfl, ?hL16⟩) (by assumption) ?rL16
      case hL16 => (intro w hSw; (try dsimp only at hSw); go_simp; try with_reducible rfl)
      change wpAnyH _ _ _ _ _ _ _ (Act.put _ (some 135) _) _
      simp only [Act.put, List.setIfInBounds_toArray, List.set_cons_zero, List.set_cons_succ]
      refine wpAnyH_take (i := 17) (v := ?vL17) rfl (by kernel_rfl) (by kernel_rfl) (by kernel_rfl) (fun _ _ _ h => h) (Or.inl ⟨by rfl, ?hL17⟩) (by assumption) ?rL17
      case hL17 => (intro w hSw; (try dsimp only at hSw); go_simp; try with_reducible rfl)
      change wpAnyH _ _ _ _ _ _ _ (Act.put _ (some 136) _) _
      simp only [Act.put, List.setIfInBounds_toArray, List.set_cons_zero, List.set_cons_succ]
      refine wpAnyH_take (i := 18) (v := ?vL18) rfl (by kernel_rfl) (by kernel_rfl) (by kernel_rfl) (fun _ _ _ h => h) (Or.inl ⟨by rfl, ?hL18⟩) (by assumption) ?rL18
      case hL18 => (intro w hSw; (try dsimp only at hSw); go_simp; try with_reducible rfl)
      change wpAnyH _ _ _ _ _ _ _ (Act.put _ (some 137) _) _
      simp only [Act.put, List.setIfInBounds_toArray, List.set_cons_zero, List.set_cons_succ]
      refine wpAnyH_take (i := 19) (v := ?vL19) rfl (by kernel_rfl) (by kernel_rfl) (by kernel_rfl) (fun _ _ _ h => h) (Or.inl ⟨by rfl, ?hL19⟩) (by assumption) ?rL19
      case hL19 => (intro w hSw; (try dsimp only at hSw); go_simp; try with_reducible rfl)
      change wpAnyH _ _ _ _ _ _ _ (Act.put _ (some 138) _) _
      simp only [Act.put, List.setIfInBounds_toArray, List.set_cons_zero, List.set_cons_succ]
      refine wpAnyH_take (i := 20) (v := ?vL20) rfl (by kernel_rfl) (by kernel_rfl) (by kernel_rfl) (fun _ _ _ h => h) (Or.inl ⟨by rfl, ?hL20⟩) (by assumption) ?rL20
      case hL20 => (intro w hSw; (try dsimp only at hSw); go_simp; try with_reducible rfl)
      change wpAnyH _ _ _ _ _ _ _ (Act.put _ (some 139) _) _
      simp only [Act.put, List.setIfInBounds_toArray, List.set_cons_zero, List.set_cons_succ]
      refine wpAnyH_take (i := 21) (v := ?vL21) rfl (by kernel_rfl) (by kernel_rfl) (by kernel_rfl) (fun _ _ _ h => h) (Or.inl ⟨by rfl, ?hL21⟩) (by assumption) ?rL21
      case hL21 => (intro w hSw; (try dsimp only at hSw); go_simp; try with_reducible rfl)
      change wpAnyH _ _ _ _ _ _ _ (Act.put _ (some 140) _) _
      simp only [Act.put, List.setIfInBounds_toArray, List.set_cons_zero, List.set_cons_succ]
      refine wpAnyH_take (i := 22) (v := ?vL22) rfl (by kernel_rfl) (by kernel_rfl) (by kernel_rfl) (fun _ _ _ h => h) (Or.inl ⟨by rfl, ?hL22⟩) (by assumption) ?rL22
      case hL22 => (intro w hSw; (try dsimp only at hSw); go_simp; try with_reducible rfl)
      change wpAnyH _ _ _ _ _ _ _ (Act.put _ (some 141) _) _
      simp only [Act.put, List.setIfInBounds_toArray, List.set_cons_zero, List.set_cons_succ]
      refine wpAnyH_take (i := 23) (v := ?vL23) rfl (by kernel_rfl) (by kernel_rfl) (by kernel_rfl) (fun _ _ _ h => h) (Or.inl ⟨by rfl, ?hL23⟩) (by assumption) ?rL23
      case hL23 => (intro w hSw; (try dsimp only at hSw); go_simp; try with_reducible rfl)
      change wpAnyH _ _ _ _ _ _ _ (Act.put _ (some 142) _) _
      simp only [Act.put, List.setIfInBounds_toArray, List.set_cons_zero, List.set_cons_succ]
      refine wpAnyH_take (i := 25) (v := ?vL25) rfl (by kernel_rfl) (by kernel_rfl) (by kernel_rfl) (fun _ _ _ h => h) (Or.inl ⟨by rfl, ?hL25⟩) (by assumption) ?rL25
      case hL25 => (intro w hSw; (try dsimp only at hSw); go_simp; try with_reducible rfl)
      change wpAnyH _ _ _ _ _ _ _ (Act.put _ (some 144) _) _
      simp only [Act.put, List.setIfInBounds_toArray, List.set_cons_zero, List.set_cons_succ]
      refine wpAnyH_take (i := 26) (v := ?vL26) rfl (by kernel_rfl) (by kernel_rfl) (by kernel_rfl) (fun _ _ _ h => h) (Or.inl ⟨by rfl, ?hL26⟩) (by assumption) ?rL26
      case hL26 => (intro w hSw; (try dsimp only at hSw); go_simp; try with_reducible rfl)
      change wpAnyH _ _ _ _ _ _ _ (Act.put _ (some 145) _) _
      simp only [Act.put, List.setIfInBounds_toArray, List.set_cons_zero, List.set_cons_succ]
      refine wpAnyH_take (i := 27) (v := ?vL27) rfl (by kernel_rfl) (by kernel_rfl) (by kernel_rfl) (fun _ _ _ h => h) (Or.inl ⟨by rfl, ?hL27⟩) (by assumption) ?rL27
      case hL27 => (intro w hSw; (try dsimp only at hSw); go_simp; try with_reducible rfl)
      change wpAnyH _ _ _ _ _ _ _ (Act.put _ (some 146) _) _
      simp only [Act.put, List.setIfInBounds_toArray, List.set_cons_zero, List.set_cons_succ]
      refine wpAnyH_take (i := 28) (v := ?vL28) rfl (by kernel_rfl) (by kernel_rfl) (by kernel_rfl) (fun _ _ _ h => h) (Or.inl ⟨by rfl, ?hL28⟩) (by assumption) ?rL28
      case hL28 => (intro w hSw; (try dsimp only at hSw); go_simp; try with_reducible rfl)
      change wpAnyH _ _ _ _ _ _ _ (Act.put _ (some 147) _) _
      simp only [Act.put, List.setIfInBounds_toArray, List.set_cons_zero, List.set_cons_succ]
      refine wpAnyH_take (i := 29) (v := ?vL29) rfl (by kernel_rfl) (by kernel_rfl) (by kernel_rfl) (fun _ _ _ h => h) (Or.inl ⟨by rfl, ?hL29⟩) (by assumption) ?rL29
      case hL29 => (intro w hSw; (try dsimp only at hSw); go_simp; try with_reducible rfl)
      change wpAnyH _ _ _ _ _ _ _ (Act.put _ (some 148) _) _
      simp only [Act.put, List.setIfInBounds_toArray, List.set_cons_zero, List.set_cons_succ]
      refine wpAnyH_ready (rs := [24]) (by kernel_rfl) (by simp) ?_
      refine AllReadyH.cons rfl (fun K hK => ?_) AllReadyH.nil
      go_simp
      refine (HC1.out _ hsa).mono ?_
      rintro e wb ⟨rfl, hbb⟩
      go_wp2_with fail
      refine hK.out _ _ ?_ (fun hHeld => ?_)
      · exact ⟨str_of (hza.below hbb), str_of (hsa.below hbb), (k20a.call hbb).all6.1, (k22a.call hbb).all6.1⟩
      clear hK K
      try simp only [Act.put, List.setIfInBounds_toArray, List.set_cons_zero, List.set_cons_succ]
      refine wpAnyH_take (i := 30) (v := ?vL30) rfl (by kernel_rfl) (by kernel_rfl) (by kernel_rfl) (fun _ _ _ h => h) (Or.inl ⟨by rfl, ?hL30⟩) (by assumption) ?rL30
      case hL30 => (intro w hSw; (try dsimp only at hSw); go_simp; try with_reducible rfl)
      change wpAnyH _ _ _ _ _ _ _ (Act.put _ (some 149) _) _
      simp only [Act.put, List.setIfInBounds_toArray, List.set_cons_zero, List.set_cons_succ]
      refine wpAnyH_take (i := 31) (v := ?vL31) rfl (by kernel_rfl) (by kernel_rfl) (by kernel_rfl) (fun _ _ _ h => h) (Or.inl ⟨by rfl, ?hL31⟩) (by assumption) ?rL31
      case hL31 => (intro w hSw; (try dsimp only at hSw); go_simp; try with_reducible rfl)
      change wpAnyH _ _ _ _ _ _ _ (Act.put _ (some 150) _) _
      simp only [Act.put, List.setIfInBounds_toArray, List.set_cons_zero, List.set_cons_succ]
      refine wpAnyH_take (i := 32) (v := ?vL32) rfl (by kernel_rfl) (by kernel_rfl) (by kernel_rfl) (fun _ _ _ h => h) (Or.inl ⟨by rfl, ?hL32⟩) (by assumption) ?rL32
      case hL32 => (intro w hSw; (try dsimp only at hSw); go_simp; try with_reducible rfl)
      change wpAnyH _ _ _ _ _ _ _ (Act.put _ (some 8) _) _
      simp only [Act.put, List.setIfInBounds_toArray, List.set_cons_zero, List.set_cons_succ]
      refine wpAnyH_done (by kernel_rfl) ?_ _
      go_wp2_with fail
      go_ret
      exact ⟨by first | rfl | (simp; done), hB.trans (((Below.refl _ _).drew.trans (hba.trans (hbb.mono hba.size))).mono hB.size)⟩
    · obtain ⟨hz0, hcn⟩ := hne.out he
      have hzz : ((er : Int) != 0) = true := by rw [bne_iff_ne]; omega
      rw [Sg.eq_iff] at hz0
      simp only [zeroSg] at hz0
      obtain ⟨rfl, rfl, rfl, rfl, rfl, rfl⟩ := hz0
      subst hcn
      have heqz : ∀ W, (binOp .eql 24 (.agg #[.int .i64 0, .string ⟨#[]⟩, .int .u32 0, .bool false, .bool false, .int .i64 0]) (.agg #[.int .i64 0, .string ⟨#[]⟩, .int .u32 0, .bool false, .bool false, .int .i64 0])).run Try.prog W = .ok (.bool true) W := fun W => by
        have := eqSg zeroSg zeroSg W
        rwa [decide_eq_true rfl] at this
      clear he
      go_wp2_with fail
      refine (HC1.out _ hs).mono ?_
      rintro e w21 ⟨rfl, hb⟩
      go_wp2_with fail
      go_ret
      exact ⟨by first | rfl | (simp; done), hB.trans (hb.mono hB.size)⟩

theorem signBack_all (pk : Int) (pt : ByteArray) (pm : Nat) (pa pb : Bool) (pu : Int) (qk : Int) (qt : ByteArray) (qm : Nat) (qa qb : Bool) (qu : Int) (Kd : Int) (A : Option Addr) (n c : Nat) (s : List UInt8) (w : World) (hs : Bs w A n c s) (ht : pt.size ≤ 9223372036854775807) (ht2 : qt.size ≤ 9223372036854775807) (hm : pm < 4294967296) (hm2 : qm < 4294967296) (hk : (Lit.int .i64 pk).wf = true) (hk2 : (Lit.int .i64 qk).wf = true) (hu : (Lit.int .i64 pu).wf = true) (hu2 : (Lit.int .i64 qu).wf = true) (hK : (Lit.int .i64 Kd).wf = true) :
    Calls Try.prog 4 #[.agg #[.int .i64 pk, .string pt, .int .u32 (pm : Int), .bool pa, .bool pb, .int .i64 pu], .agg #[.int .i64 qk, .string qt, .int .u32 (qm : Int), .bool qa, .bool qb, .int .i64 qu], .int .i64 Kd, .slice A n c] w fun e w' => e = .returned (.bool true) ∧ Below w.heap.size w w' := by
  by_cases hb : 300 < pt.size ∨ 300 < qt.size ∨ 300 < n
  · have := hs.le
    have := hs.cap
    unfold maxLen at this
    exact signBack_big KC pk pt pm pa pb pu qk qt qm qa qb qu Kd A n c s w (by omega) (by omega) (by omega) hb
  · have hok : SgOk ⟨pk, pt, pm, pa, pb, pu⟩ := ⟨by simp only; omega, hm, hk, hu⟩
    have hok2 : SgOk ⟨qk, qt, qm, qa, qb, qu⟩ := ⟨by simp only; omega, hm2, hk2, hu2⟩
    cases hr : rightSg ⟨pk, pt, pm, pa, pb, pu⟩
    · exact signBack_no KC pk pt pm pa pb pu qk qt qm qa qb qu Kd A n c s w hs hok hok2 hK (by omega) (by omega) (by omega) hr
    · exact signBack_yes KC pk pt pm pa pb pu qk qt qm qa qb qu Kd A n c s w hs hok hok2 hK (by omega) (by omega) (by omega) hr
end

end Go.Proofs.Ytnmnbiphonjlaaa

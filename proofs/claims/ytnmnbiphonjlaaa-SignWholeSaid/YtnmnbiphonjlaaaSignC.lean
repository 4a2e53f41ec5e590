/-
  What the document's own answers for layer 9 come to: Canon; signs compared. (Written by gen_SignC.py.)
-/
import Derived.Test.YtnmnbiphonjlaaaSignS
import Derived.Test.YtnmnbiphonjlaaaBase
import Derived.Deep.QuietTactic
import Derived.Laws.StructEq
namespace Go.Proofs.Ytnmnbiphonjlaaa
open Go.RowKit
set_option linter.unusedVariables false
set_option linter.unusedSimpArgs false

theorem right_num {p : Sg} (h : rightSg p = true) : p.num < 16777216 := by
  rcases right_kind h with hk | hk | hk | hk | hk
  · rw [(right_text h hk).2.1]; omega
  · exact (right_3 h hk).2.1
  · have := (right_4 h hk).2.1; omega
  · have := (right_5 h hk).2.1; omega
  · rw [(right_6 h hk).2.1]; omega
theorem text_eq (t t' : ByteArray) : (t.toList == t'.toList) = decide (t = t') := by
  rw [Bool.eq_iff_iff, beq_iff_eq, decide_eq_true_eq, Go.ByteArray.toList_eq, Go.ByteArray.toList_eq]
  constructor
  · intro h
    cases t; cases t'
    congr 1
    exact Array.ext' h
  · intro h; rw [h]
theorem eqSg (p q : Sg) (W : World) : (binOp .eql 24 (sgV p) (sgV q)).run Try.prog W = .ok (.bool (decide (p = q))) W := by
  have hS : Try.prog.underlying 24 = some (.struct (Try.prog.fieldsOf 24)) := by kernel_rfl
  have hp : Try.prog.stoodInHeld 24 = false := by kernel_rfl
  obtain ⟨k, t, n, a, b, u⟩ := p
  obtain ⟨k', t', n', a', b', u'⟩ := q
  have e1 := text_eq t t'
  rw [run_eql_struct, show (10000 : Nat) = 9999 + 1 from rfl, run_equalIn_agg W 9999 _ _ _ hS hp]
  simp only [Program.fieldsOf, Try.underlying24]
  go_simp
  by_cases h1 : k = k' <;> by_cases h2 : t = t' <;> by_cases h3 : n = n' <;> by_cases h4 : a = a' <;> by_cases h5 : b = b' <;> by_cases h6 : u = u' <;> simp [h1, h2, h3, h4, h5, h6] <;> omega

set_option maxRecDepth 100000 in
set_option maxHeartbeats 2000000 in
theorem rscanon_any (K : Int) (A : Option Addr) (n c : Nat) (s : List UInt8) (w : World) (hs : Bs w A n c s) :
    Calls Try.prog 14 #[.int .i64 K, .slice A n c] w (Says w (.bool (canonSg K s))) := by
  have HR := Lib.hid (rsread_any K A n c s w hs)
  by_cases he : signE K s = 0
  · have hr := sign_right he
    have hcn : canonSg K s = (writeSg (readSg K s) == s) := by
      unfold canonSg
      rw [Bool.eq_iff_iff, decide_eq_true_eq, beq_iff_eq]
      exact ⟨fun h => h.2, fun h => ⟨he, h⟩⟩
    rw [hcn]
    rw [he] at HR
    have HW := Lib.hid (fun W => rswrite_any (readSg K s) W hr.1 (by have := right_num hr.1; omega))
    clear hcn he hr
    generalize readSg K s = p at *
    generalize writeSg p = X at *
    obtain ⟨k, t, m, a, b, u⟩ := p
    go_enter Try.func14, Try.ntmps14
    go_wp2_with fail
    refine (HR.out).mono ?_
    rintro x w2 ⟨rfl, hb⟩
    dsimp only [sgV] at HW ⊢
    have hs2 := (hs.below hb).alloc (.cells #[.int .i64 k, .string t, .int .u32 (m : Int), .bool a, .bool b, .int .i64 u] 24)
    have k1 := Box.new w2 [.int .i64 k, .string t, .int .u32 (m : Int), .bool a, .bool b, .int .i64 u] 24
    have hB := hb.alloc hb.size (.cells #[.int .i64 k, .string t, .int .u32 (m : Int), .bool a, .bool b, .int .i64 u] 24)
    go_upto_region 2 with fail
    refine wp_region_held_drew (S := (fun W => (convert 25 9 (.slice A n c)).run Try.prog W = .ok (.string ⟨s.toArray⟩) W ∧ W.cell? ⟨w2.heap.size, 0, none⟩ = some (.int .i64 k) ∧ W.cell? ⟨w2.heap.size, 1, none⟩ = some (.string t) ∧ W.cell? ⟨w2.heap.size, 2, none⟩ = some (.int .u32 (m : Int)) ∧ W.cell? ⟨w2.heap.size, 3, none⟩ = some (.bool a) ∧ W.cell? ⟨w2.heap.size, 4, none⟩ = some (.bool b) ∧ W.cell? ⟨w2.heap.size, 5, none⟩ = some (.int .i64 u))) (by kernel_rfl) ⟨str_of hs2.drew, k1.all6.1⟩ (fun hHeld => ?_)
    refine wpAnyH_take (i := 0) (v := ?vC0) rfl (by kernel_rfl) (by kernel_rfl) (by kernel_rfl) (fun _ _ _ h => h) (Or.inl ⟨by rfl, ?hC0⟩) (by assumption) ?rC0
    case hC0 => (intro w hSw; (try dsimp only at hSw); go_simp; try with_reducible rfl)
    change wpAnyH _ _ _ _ _ _ _ (Act.put _ (some 13) _) _
    simp only [Act.put, List.setIfInBounds_toArray, List.set_cons_zero, List.set_cons_succ]
    refine wpAnyH_take (i := 1) (v := ?vC1) rfl (by kernel_rfl) (by kernel_rfl) (by kernel_rfl) (fun _ _ _ h => h) (Or.inl ⟨by rfl, ?hC1⟩) (by assumption) ?rC1
    case hC1 => (intro w hSw; (try dsimp only at hSw); go_simp; try with_reducible rfl)
    change wpAnyH _ _ _ _ _ _ _ (Act.put _ (some 14) _) _
    simp only [Act.put, List.setIfInBounds_toArray, List.set_cons_zero, List.set_cons_succ]
    refine wpAnyH_take (i := 2) (v := ?vC2) rfl (by kernel_rfl) (by kernel_rfl) (by kernel_rfl) (fun _ _ _ h => h) (Or.inl ⟨by rfl, ?hC2⟩) (by assumption) ?rC2
    case hC2 => (intro w hSw; (try dsimp only at hSw); go_simp; try with_reducible rfl)
    change wpAnyH _ _ _ _ _ _ _ (Act.put _ (some 15) _) _
    simp only [Act.put, List.setIfInBounds_toArray, List.set_cons_zero, List.set_cons_succ]
    refine wpAnyH_take (i := 3) (v := ?vC3) rfl (by kernel_rfl) (by kernel_rfl) (by kernel_rfl) (fun _ _ _ h => h) (Or.inl ⟨by rfl, ?hC3⟩) (by assumption) ?rC3
    case hC3 => (intro w hSw; (try dsimp only at hSw); go_simp; try with_reducible rfl)
    change wpAnyH _ _ _ _ _ _ _ (Act.put _ (some 16) _) _
    simp only [Act.put, List.setIfInBounds_toArray, List.set_cons_zero, List.set_cons_succ]
    refine wpAnyH_take (i := 6) (v := ?vC6) rfl (by kernel_rfl) (by kernel_rfl) (by kernel_rfl) (fun _ _ _ h => h) (Or.inl ⟨by rfl, ?hC6⟩) (by assumption) ?rC6
    case hC6 => (intro w hSw; (try dsimp only at hSw); go_simp; try with_reducible rfl)
    change wpAnyH _ _ _ _ _ _ _ (Act.put _ (some 19) _) _
    simp only [Act.put, List.setIfInBounds_toArray, List.set_cons_zero, List.set_cons_succ]
    refine wpAnyH_take (i := 7) (v := ?vC7) rfl (by kernel_rfl) (by kernel_rfl) (by kernel_rfl) (fun _ _ _ h => h) (Or.inl ⟨by rfl, ?hC7⟩) (by assumption) ?rC7
    case hC7 => (intro w hSw; (try dsimp only at hSw); go_simp; try with_reducible rfl)
    change wpAnyH _ _ _ _ _ _ _ (Act.put _ (some 20) _) _
    simp only [Act.put, List.setIfInBounds_toArray, List.set_cons_zero, List.set_cons_succ]
    refine wpAnyH_ready (rs := [4]) (by kernel_rfl) (by simp) ?_
    refine AllReadyH.cons rfl (fun K hK => ?_) AllReadyH.nil
    go_simp
    refine (HW.out _).mono ?_
    rintro e w4 ⟨A4, c4, rfl, ho4, hb4⟩
    go_wp2_with fail
    have hs4 := Bs.below (w := (w2.alloc (.cells #[.int .i64 k, .string t, .int .u32 (m : Int), .bool a, .bool b, .int .i64 u] 24)).drew) hs2.drew hb4
    have k4 := Box.call (w := (w2.alloc (.cells #[.int .i64 k, .string t, .int .u32 (m : Int), .bool a, .bool b, .int .i64 u] 24)).drew) k1 hb4
    have t3 := str_of hs4
    have t4 := str_of ho4
    refine hK.out _ _ ?_ (fun hHeld => ?_)
    · exact ⟨t3, k4.all6.1⟩
    clear hK K
    try simp only [Act.put, List.setIfInBounds_toArray, List.set_cons_zero, List.set_cons_succ]
    have hHeld2 : (fun W => (convert 25 9 (.slice A4 X.length c4)).run Try.prog W = .ok (.string ⟨X.toArray⟩) W ∧ ((convert 25 9 (.slice A n c)).run Try.prog W = .ok (.string ⟨s.toArray⟩) W ∧ W.cell? ⟨w2.heap.size, 0, none⟩ = some (.int .i64 k) ∧ W.cell? ⟨w2.heap.size, 1, none⟩ = some (.string t) ∧ W.cell? ⟨w2.heap.size, 2, none⟩ = some (.int .u32 (m : Int)) ∧ W.cell? ⟨w2.heap.size, 3, none⟩ = some (.bool a) ∧ W.cell? ⟨w2.heap.size, 4, none⟩ = some (.bool b) ∧ W.cell? ⟨w2.heap.size, 5, none⟩ = some (.int .i64 u))) w4 := ⟨t4, t3, k4.all6.1⟩
    refine wpAnyH_mono (S2 := (fun W => (convert 25 9 (.slice A4 X.length c4)).run Try.prog W = .ok (.string ⟨X.toArray⟩) W ∧ ((convert 25 9 (.slice A n c)).run Try.prog W = .ok (.string ⟨s.toArray⟩) W ∧ W.cell? ⟨w2.heap.size, 0, none⟩ = some (.int .i64 k) ∧ W.cell? ⟨w2.heap.size, 1, none⟩ = some (.string t) ∧ W.cell? ⟨w2.heap.size, 2, none⟩ = some (.int .u32 (m : Int)) ∧ W.cell? ⟨w2.heap.size, 3, none⟩ = some (.bool a) ∧ W.cell? ⟨w2.heap.size, 4, none⟩ = some (.bool b) ∧ W.cell? ⟨w2.heap.size, 5, none⟩ = some (.int .i64 u)))) (fun _ h => h.2) ?_
    refine wpAnyH_take (i := 5) (v := ?vC5) rfl (by kernel_rfl) (by kernel_rfl) (by kernel_rfl) (fun _ _ _ h => h) (Or.inl ⟨by rfl, ?hC5⟩) (by assumption) ?rC5
    case hC5 => (intro w hSw; (try dsimp only at hSw); go_simp; try with_reducible rfl)
    change wpAnyH _ _ _ _ _ _ _ (Act.put _ (some 18) _) _
    simp only [Act.put, List.setIfInBounds_toArray, List.set_cons_zero, List.set_cons_succ]
    refine wpAnyH_take (i := 8) (v := ?vC8) rfl (by kernel_rfl) (by kernel_rfl) (by kernel_rfl) (fun _ _ _ h => h) (Or.inl ⟨by rfl, ?hC8⟩) (by assumption) ?rC8
    case hC8 => (intro w hSw; (try dsimp only at hSw); go_simp; try with_reducible rfl)
    change wpAnyH _ _ _ _ _ _ _ (Act.put _ (some 21) _) _
    simp only [Act.put, List.setIfInBounds_toArray, List.set_cons_zero, List.set_cons_succ]
    refine wpAnyH_take (i := 9) (v := ?vC9) rfl (by kernel_rfl) (by kernel_rfl) (by kernel_rfl) (fun _ _ _ h => h) (Or.inl ⟨by rfl, ?hC9⟩) (by assumption) ?rC9
    case hC9 => (intro w hSw; (try dsimp only at hSw); go_simp; try with_reducible rfl)
    change wpAnyH _ _ _ _ _ _ _ (Act.put _ (some 22) _) _
    simp only [Act.put, List.setIfInBounds_toArray, List.set_cons_zero, List.set_cons_succ]
    refine wpAnyH_take (i := 10) (v := ?vC10) rfl (by kernel_rfl) (by kernel_rfl) (by kernel_rfl) (fun _ _ _ h => h) (Or.inl ⟨by rfl, ?hC10⟩) (by assumption) ?rC10
    case hC10 => (intro w hSw; (try dsimp only at hSw); go_simp; try with_reducible rfl)
    change wpAnyH _ _ _ _ _ _ _ (Act.put _ (some 4) _) _
    simp only [Act.put, List.setIfInBounds_toArray, List.set_cons_zero, List.set_cons_succ]
    refine wpAnyH_done (by kernel_rfl) ?_ _
    go_wp2_with fail
    go_ret
    exact ⟨by first | rfl | (simp; done), hB.trans (((Below.refl _ _).drew.trans hb4).mono hB.size)⟩
  · have hcn : canonSg K s = false := decide_eq_false fun h => he h.1
    rw [hcn]
    have hz : ((signE K s : Int) == 0) = false := by rw [beq_eq_false_iff_ne]; omega
    generalize signE K s = er at *
    clear he hcn
    go_enter Try.func14, Try.ntmps14
    go_wp2_with fail
    refine (HR.out).mono ?_
    rintro x w2 ⟨rfl, hb⟩
    dsimp only [sgV]
    go_upto_region 2 with fail
    go_quiet (fail)
    go_wp2_with fail
    go_ret
    exact ⟨rfl, below_drewN (hb.alloc hb.size _) _⟩

end Go.Proofs.Ytnmnbiphonjlaaa

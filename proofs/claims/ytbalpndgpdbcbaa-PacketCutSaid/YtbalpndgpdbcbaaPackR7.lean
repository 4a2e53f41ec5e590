/-
  What the document's own answers for layer 6 come to: Canon. (Written by gen_PackR7.py.)
-/
import Derived.Test.YtbalpndgpdbcbaaPackR6
import Derived.Test.YtbalpndgpdbcbaaReg
namespace Go.Proofs.Ytbalpndgpdbcbaa
open Go.RowKit
set_option linter.unusedVariables false
set_option linter.unusedSimpArgs false

theorem PkIn.drew {w : World} {p : Pk} {A B C : Option Addr} {n c lb cb lc cc : Nat} (h : PkIn w p A n c B lb cb C lc cc) : PkIn w.drew p A n c B lb cb C lc cc := ⟨h.us.drewN 1, h.ext.drew, h.pay.drew⟩

set_option maxRecDepth 100000 in
set_option maxHeartbeats 2000000 in
theorem rcanon_any (A : Option Addr) (l c : Nat) (s : List UInt8) (w : World) (hs : Bs w A l c s) (hl : l ≤ 140737488355328) :
    Calls Try.prog 18 #[.slice A l c] w (Says w (.bool (canonP s))) := by
  have HR := Lib.hid (rpread_any A l c s w hs hl)
  by_cases he : pErr s = 0
  · obtain ⟨hr, hf⟩ := packOf_right he
    have hrd : readP s = packOf s := if_pos he
    rw [← hrd] at hr hf
    have hcn : canonP s = (packB (readP s) == s) := by
      unfold canonP
      rw [Bool.eq_iff_iff, decide_eq_true_eq, beq_iff_eq]
      exact ⟨fun h => h.2, fun h => ⟨he, h⟩⟩
    rw [hcn]
    rw [he] at HR
    clear hrd hcn he
    generalize readP s = p at *
    go_enter Try.func18, Try.ntmps18
    go_wp2_with fail
    refine (HR.out).mono ?_
    rintro x w2 ⟨A1, c1, B1, cb1, C1, cc1, rfl, hin, hb⟩
    dsimp only [pkV]
    obtain ⟨n1, hn1⟩ : ∃ n, n = p.hd.csrc.length := ⟨_, rfl⟩
    obtain ⟨n2, hn2⟩ : ∃ n, n = p.ext.length := ⟨_, rfl⟩
    obtain ⟨n3, hn3⟩ : ∃ n, n = p.pay.length := ⟨_, rfl⟩
    rw [← hn1, ← hn2, ← hn3] at hin
    rw [← hn1, ← hn2, ← hn3]
    clear hn1 hn2 hn3
    have h3 := hin.alloc (.cells #[.bool p.hd.pad, .bool p.hd.ext, .bool p.hd.mark, .int .i64 p.hd.typ, .int .u16 p.hd.seq, .int .u32 p.hd.time, .int .u32 p.hd.ssrc, .slice A1 n1 c1, .int .u16 p.prof, .slice B1 n2 cb1, .slice C1 n3 cc1, .int .i64 p.pad] 29)
    have hs3 := ((hs.below hb).alloc (.cells #[.bool p.hd.pad, .bool p.hd.ext, .bool p.hd.mark, .int .i64 p.hd.typ, .int .u16 p.hd.seq, .int .u32 p.hd.time, .int .u32 p.hd.ssrc, .slice A1 n1 c1, .int .u16 p.prof, .slice B1 n2 cb1, .slice C1 n3 cc1, .int .i64 p.pad] 29)).drew
    have kq := (Box.new w2 [.bool p.hd.pad, .bool p.hd.ext, .bool p.hd.mark, .int .i64 p.hd.typ, .int .u16 p.hd.seq, .int .u32 p.hd.time, .int .u32 p.hd.ssrc, .slice A1 n1 c1, .int .u16 p.prof, .slice B1 n2 cb1, .slice C1 n3 cc1, .int .i64 p.pad] 29).drewN 1
    have hB := hb.alloc hb.size (.cells #[.bool p.hd.pad, .bool p.hd.ext, .bool p.hd.mark, .int .i64 p.hd.typ, .int .u16 p.hd.seq, .int .u32 p.hd.time, .int .u32 p.hd.ssrc, .slice A1 n1 c1, .int .u16 p.prof, .slice B1 n2 cb1, .slice C1 n3 cc1, .int .i64 p.pad] 29)
    have HW := Lib.hid (fun W h => rpwrite_any p A1 n1 c1 B1 n2 cb1 C1 n3 cc1 W h hr hf)
    generalize packB p = X at *
    clear hr hf
    go_upto_region 2 with fail
    refine wp_region_held_drew (S := (fun W => (convert 27 9 (.slice A l c)).run Try.prog W = .ok (.string ⟨s.toArray⟩) W ∧ W.cell? ⟨w2.heap.size, 0, none⟩ = some (.bool p.hd.pad) ∧ W.cell? ⟨w2.heap.size, 1, none⟩ = some (.bool p.hd.ext) ∧ W.cell? ⟨w2.heap.size, 2, none⟩ = some (.bool p.hd.mark) ∧ W.cell? ⟨w2.heap.size, 3, none⟩ = some (.int .i64 p.hd.typ) ∧ W.cell? ⟨w2.heap.size, 4, none⟩ = some (.int .u16 p.hd.seq) ∧ W.cell? ⟨w2.heap.size, 5, none⟩ = some (.int .u32 p.hd.time) ∧ W.cell? ⟨w2.heap.size, 6, none⟩ = some (.int .u32 p.hd.ssrc) ∧ W.cell? ⟨w2.heap.size, 7, none⟩ = some (.slice A1 n1 c1) ∧ W.cell? ⟨w2.heap.size, 8, none⟩ = some (.int .u16 p.prof) ∧ W.cell? ⟨w2.heap.size, 9, none⟩ = some (.slice B1 n2 cb1) ∧ W.cell? ⟨w2.heap.size, 10, none⟩ = some (.slice C1 n3 cc1) ∧ W.cell? ⟨w2.heap.size, 11, none⟩ = some (.int .i64 p.pad))) (by kernel_rfl) ⟨str_of hs3, kq.all12.1⟩ (fun hHeld => ?_)
    refine wpAnyH_take (i := 0) (v := ?vC0) rfl (by kernel_rfl) (by kernel_rfl) (by kernel_rfl) (fun _ _ _ h => h) (Or.inl ⟨by rfl, ?hC0⟩) (by assumption) ?rC0
    case hC0 => (intro w hSw; (try dsimp only at hSw); go_simp; try with_reducible rfl)
    change wpAnyH _ _ _ _ _ _ _ (Act.put _ (some 10) _) _
    simp only [Act.put, List.setIfInBounds_toArray, List.set_cons_zero, List.set_cons_succ]
    refine wpAnyH_take (i := 1) (v := ?vC1) rfl (by kernel_rfl) (by kernel_rfl) (by kernel_rfl) (fun _ _ _ h => h) (Or.inl ⟨by rfl, ?hC1⟩) (by assumption) ?rC1
    case hC1 => (intro w hSw; (try dsimp only at hSw); go_simp; try with_reducible rfl)
    change wpAnyH _ _ _ _ _ _ _ (Act.put _ (some 11) _) _
    simp only [Act.put, List.setIfInBounds_toArray, List.set_cons_zero, List.set_cons_succ]
    refine wpAnyH_take (i := 2) (v := ?vC2) rfl (by kernel_rfl) (by kernel_rfl) (by kernel_rfl) (fun _ _ _ h => h) (Or.inl ⟨by rfl, ?hC2⟩) (by assumption) ?rC2
    case hC2 => (intro w hSw; (try dsimp only at hSw); go_simp; try with_reducible rfl)
    change wpAnyH _ _ _ _ _ _ _ (Act.put _ (some 12) _) _
    simp only [Act.put, List.setIfInBounds_toArray, List.set_cons_zero, List.set_cons_succ]
    refine wpAnyH_take (i := 3) (v := ?vC3) rfl (by kernel_rfl) (by kernel_rfl) (by kernel_rfl) (fun _ _ _ h => h) (Or.inl ⟨by rfl, ?hC3⟩) (by assumption) ?rC3
    case hC3 => (intro w hSw; (try dsimp only at hSw); go_simp; try with_reducible rfl)
    change wpAnyH _ _ _ _ _ _ _ (Act.put _ (some 13) _) _
    simp only [Act.put, List.setIfInBounds_toArray, List.set_cons_zero, List.set_cons_succ]
    refine wpAnyH_take (i := 6) (v := ?vC6) rfl (by kernel_rfl) (by kernel_rfl) (by kernel_rfl) (fun _ _ _ h => h) (Or.inl ⟨by rfl, ?hC6⟩) (by assumption) ?rC6
    case hC6 => (intro w hSw; (try dsimp only at hSw); go_simp; try with_reducible rfl)
    change wpAnyH _ _ _ _ _ _ _ (Act.put _ (some 16) _) _
    simp only [Act.put, List.setIfInBounds_toArray, List.set_cons_zero, List.set_cons_succ]
    refine wpAnyH_take (i := 7) (v := ?vC7) rfl (by kernel_rfl) (by kernel_rfl) (by kernel_rfl) (fun _ _ _ h => h) (Or.inl ⟨by rfl, ?hC7⟩) (by assumption) ?rC7
    case hC7 => (intro w hSw; (try dsimp only at hSw); go_simp; try with_reducible rfl)
    change wpAnyH _ _ _ _ _ _ _ (Act.put _ (some 17) _) _
    simp only [Act.put, List.setIfInBounds_toArray, List.set_cons_zero, List.set_cons_succ]
    refine wpAnyH_ready (rs := [4]) (by kernel_rfl) (by simp) ?_
    refine AllReadyH.cons rfl (fun K hK => ?_) AllReadyH.nil
    go_simp
    refine (HW.out _ (PkIn.drew h3)).mono ?_
    rintro e w4 ⟨A4, c4, rfl, ho4, hb4⟩
    go_wp2_with fail
    have t3 := str_of (Bs.below (w := (w2.alloc (.cells #[.bool p.hd.pad, .bool p.hd.ext, .bool p.hd.mark, .int .i64 p.hd.typ, .int .u16 p.hd.seq, .int .u32 p.hd.time, .int .u32 p.hd.ssrc, .slice A1 n1 c1, .int .u16 p.prof, .slice B1 n2 cb1, .slice C1 n3 cc1, .int .i64 p.pad] 29)).drew) hs3 hb4)
    have t4 := str_of ho4.bs
    have f4 := (Box.call (w := (w2.alloc (.cells #[.bool p.hd.pad, .bool p.hd.ext, .bool p.hd.mark, .int .i64 p.hd.typ, .int .u16 p.hd.seq, .int .u32 p.hd.time, .int .u32 p.hd.ssrc, .slice A1 n1 c1, .int .u16 p.prof, .slice B1 n2 cb1, .slice C1 n3 cc1, .int .i64 p.pad] 29)).drew) kq hb4).all12.1
    refine hK.out _ _ ?_ (fun hHeld => ?_)
    · exact ⟨t3, f4⟩
    clear hK K
    try simp only [Act.put, List.setIfInBounds_toArray, List.set_cons_zero, List.set_cons_succ]
    have hHeld2 : (fun W => (convert 27 9 (.slice A4 X.length c4)).run Try.prog W = .ok (.string ⟨X.toArray⟩) W ∧ (convert 27 9 (.slice A l c)).run Try.prog W = .ok (.string ⟨s.toArray⟩) W ∧ W.cell? ⟨w2.heap.size, 0, none⟩ = some (.bool p.hd.pad) ∧ W.cell? ⟨w2.heap.size, 1, none⟩ = some (.bool p.hd.ext) ∧ W.cell? ⟨w2.heap.size, 2, none⟩ = some (.bool p.hd.mark) ∧ W.cell? ⟨w2.heap.size, 3, none⟩ = some (.int .i64 p.hd.typ) ∧ W.cell? ⟨w2.heap.size, 4, none⟩ = some (.int .u16 p.hd.seq) ∧ W.cell? ⟨w2.heap.size, 5, none⟩ = some (.int .u32 p.hd.time) ∧ W.cell? ⟨w2.heap.size, 6, none⟩ = some (.int .u32 p.hd.ssrc) ∧ W.cell? ⟨w2.heap.size, 7, none⟩ = some (.slice A1 n1 c1) ∧ W.cell? ⟨w2.heap.size, 8, none⟩ = some (.int .u16 p.prof) ∧ W.cell? ⟨w2.heap.size, 9, none⟩ = some (.slice B1 n2 cb1) ∧ W.cell? ⟨w2.heap.size, 10, none⟩ = some (.slice C1 n3 cc1) ∧ W.cell? ⟨w2.heap.size, 11, none⟩ = some (.int .i64 p.pad)) w4 := ⟨t4, t3, f4⟩
    refine wpAnyH_mono (S2 := (fun W => (convert 27 9 (.slice A4 X.length c4)).run Try.prog W = .ok (.string ⟨X.toArray⟩) W ∧ (convert 27 9 (.slice A l c)).run Try.prog W = .ok (.string ⟨s.toArray⟩) W ∧ W.cell? ⟨w2.heap.size, 0, none⟩ = some (.bool p.hd.pad) ∧ W.cell? ⟨w2.heap.size, 1, none⟩ = some (.bool p.hd.ext) ∧ W.cell? ⟨w2.heap.size, 2, none⟩ = some (.bool p.hd.mark) ∧ W.cell? ⟨w2.heap.size, 3, none⟩ = some (.int .i64 p.hd.typ) ∧ W.cell? ⟨w2.heap.size, 4, none⟩ = some (.int .u16 p.hd.seq) ∧ W.cell? ⟨w2.heap.size, 5, none⟩ = some (.int .u32 p.hd.time) ∧ W.cell? ⟨w2.heap.size, 6, none⟩ = some (.int .u32 p.hd.ssrc) ∧ W.cell? ⟨w2.heap.size, 7, none⟩ = some (.slice A1 n1 c1) ∧ W.cell? ⟨w2.heap.size, 8, none⟩ = some (.int .u16 p.prof) ∧ W.cell? ⟨w2.heap.size, 9, none⟩ = some (.slice B1 n2 cb1) ∧ W.cell? ⟨w2.heap.size, 10, none⟩ = some (.slice C1 n3 cc1) ∧ W.cell? ⟨w2.heap.size, 11, none⟩ = some (.int .i64 p.pad))) (fun _ h => h.2) ?_
    refine wpAnyH_take (i := 5) (v := ?vC5) rfl (by kernel_rfl) (by kernel_rfl) (by kernel_rfl) (fun _ _ _ h => h) (Or.inl ⟨by rfl, ?hC5⟩) (by assumption) ?rC5
    case hC5 => (intro w hSw; (try dsimp only at hSw); go_simp; try with_reducible rfl)
    change wpAnyH _ _ _ _ _ _ _ (Act.put _ (some 15) _) _
    simp only [Act.put, List.setIfInBounds_toArray, List.set_cons_zero, List.set_cons_succ]
    refine wpAnyH_take (i := 8) (v := ?vC8) rfl (by kernel_rfl) (by kernel_rfl) (by kernel_rfl) (fun _ _ _ h => h) (Or.inl ⟨by rfl, ?hC8⟩) (by assumption) ?rC8
    case hC8 => (intro w hSw; (try dsimp only at hSw); go_simp; try with_reducible rfl)
    change wpAnyH _ _ _ _ _ _ _ (Act.put _ (some 18) _) _
    simp only [Act.put, List.setIfInBounds_toArray, List.set_cons_zero, List.set_cons_succ]
    refine wpAnyH_take (i := 9) (v := ?vC9) rfl (by kernel_rfl) (by kernel_rfl) (by kernel_rfl) (fun _ _ _ h => h) (Or.inl ⟨by rfl, ?hC9⟩) (by assumption) ?rC9
    case hC9 => (intro w hSw; (try dsimp only at hSw); go_simp; try with_reducible rfl)
    change wpAnyH _ _ _ _ _ _ _ (Act.put _ (some 19) _) _
    simp only [Act.put, List.setIfInBounds_toArray, List.set_cons_zero, List.set_cons_succ]
    refine wpAnyH_take (i := 10) (v := ?vC10) rfl (by kernel_rfl) (by kernel_rfl) (by kernel_rfl) (fun _ _ _ h => h) (Or.inl ⟨by rfl, ?hC10⟩) (by assumption) ?rC10
    case hC10 => (intro w hSw; (try dsimp only at hSw); go_simp; try with_reducible rfl)
    change wpAnyH _ _ _ _ _ _ _ (Act.put _ (some 2) _) _
    simp only [Act.put, List.setIfInBounds_toArray, List.set_cons_zero, List.set_cons_succ]
    refine wpAnyH_done (by kernel_rfl) ?_ _
    go_wp2_with fail
    go_ret
    refine ⟨?_, hB.trans (((Below.refl _ _).drew.trans hb4).mono hB.size)⟩
    first
      | rfl
      | (simp; done)
  · have hcn : canonP s = false := decide_eq_false fun h => he h.1
    have hrd : readP s = zeroP := if_neg he
    rw [hcn]
    rw [hrd] at HR
    have hz : ((pErr s : Int) == 0) = false := by rw [beq_eq_false_iff_ne]; omega
    generalize pErr s = er at *
    clear he hcn hrd
    go_enter Try.func18, Try.ntmps18
    go_wp2_with fail
    refine (HR.out).mono ?_
    rintro x w2 ⟨A1, c1, B1, cb1, C1, cc1, rfl, hin, hb⟩
    dsimp only [pkV, zeroP, zeroH, List.length_nil] at hin ⊢
    go_upto_region 2 with fail
    go_quiet (fail)
    go_wp2_with fail
    go_ret
    exact ⟨rfl, below_drewN (hb.alloc hb.size _) _⟩

end Go.Proofs.Ytbalpndgpdbcbaa

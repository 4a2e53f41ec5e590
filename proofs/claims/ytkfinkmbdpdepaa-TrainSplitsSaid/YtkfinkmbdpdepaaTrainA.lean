/-
  The fixed answers of layer 11: 'awake' is true, under the contracts of package train's calls. (Written by gen_TrainA.py.)
-/
import Derived.Test.YtkfinkmbdpdepaaTrainK
import Derived.Test.YtkfinkmbdpdepaaBase
namespace Go.Proofs.Ytkfinkmbdpdepaa
open Go.RowKit
set_option linter.unusedVariables false
set_option linter.unusedSimpArgs false

theorem a11_close : closeR 201 1 [1, 2, 3, 4] 0 = [129, 201, 0, 1, 1, 2, 3, 4] ∧ closeE 201 1 [1, 2, 3, 4] 0 = 0 ∧ closeR 203 0 [] 4 = [160, 203, 0, 1, 0, 0, 0, 4] ∧ closeE 203 0 [] 4 = 0 := by decide
theorem a11_split : splitL [129, 201, 0, 1, 1, 2, 3, 4, 160, 203, 0, 1, 0, 0, 0, 4] = [[129, 201, 0, 1, 1, 2, 3, 4], [160, 203, 0, 1, 0, 0, 0, 4]] ∧ splitE [129, 201, 0, 1, 1, 2, 3, 4, 160, 203, 0, 1, 0, 0, 0, 4] = 0 ∧ splitE [160, 203, 0, 1, 0, 0, 0, 4, 129, 201, 0, 1, 1, 2, 3, 4] = 5 := by decide
theorem a11_open : openC [160, 203, 0, 1, 0, 0, 0, 4] = ⟨true, 0, 203, 8⟩ ∧ openD [160, 203, 0, 1, 0, 0, 0, 4] = [] ∧ openN [160, 203, 0, 1, 0, 0, 0, 4] = 4 ∧ openE [160, 203, 0, 1, 0, 0, 0, 4] = 0 := by decide

section
variable (KC : TrainCalls)
include KC
set_option maxRecDepth 100000 in
set_option maxHeartbeats 2000000 in
theorem awake11_any (w : World) :
    Calls Try.prog 6 #[] w fun e w' => e = .returned (.bool true) ∧ Below w.heap.size w w' := by
  have HC1 : Hid (∀ (W : World) A d, Bs W A 4 d [1, 2, 3, 4] → Calls Try.prog 9 #[.int .i64 201, .int .i64 1, .slice A 4 d, .int .i64 0] W fun e w' => ∃ A d, e = .returned (.tuple #[.slice A 8 d, .int .i64 0]) ∧ Own w' W.heap.size 5 A 8 d [129, 201, 0, 1, 1, 2, 3, 4] ∧ Below W.heap.size W w') := Lib.hid (fun W A d h => by
    have := KC.close 201 1 A 4 d [1, 2, 3, 4] 0 W h (by decide)
    rw [a11_close.1, a11_close.2.1] at this
    exact this)
  have HC2 : Hid (∀ (W : World), Calls Try.prog 9 #[.int .i64 203, .int .i64 0, .slice none 0 0, .int .i64 4] W fun e w' => ∃ A d, e = .returned (.tuple #[.slice A 8 d, .int .i64 0]) ∧ Own w' W.heap.size 5 A 8 d [160, 203, 0, 1, 0, 0, 0, 4] ∧ Below W.heap.size W w') := Lib.hid (fun W => by
    have := KC.close 203 0 none 0 0 [] 4 W (Bs.nil _) (by decide)
    rw [a11_close.2.2.1, a11_close.2.2.2] at this
    exact this)
  have HS1 : Hid (∀ (W : World) A d, Bs W A 16 d ([129, 201, 0, 1, 1, 2, 3, 4] ++ [160, 203, 0, 1, 0, 0, 0, 4]) → Calls Try.prog 12 #[.slice A 16 d] W fun e w' => ∃ A m d, e = .returned (.tuple #[.slice A m d, .int .i64 0]) ∧ Bls w' A m d [[129, 201, 0, 1, 1, 2, 3, 4], [160, 203, 0, 1, 0, 0, 0, 4]] ∧ Below W.heap.size W w') := Lib.hid (fun W A d h => by
    have := KC.split A 16 d ([129, 201, 0, 1, 1, 2, 3, 4] ++ [160, 203, 0, 1, 0, 0, 0, 4]) W h (by decide)
    rw [show ([129, 201, 0, 1, 1, 2, 3, 4] : List UInt8) ++ [160, 203, 0, 1, 0, 0, 0, 4] = [129, 201, 0, 1, 1, 2, 3, 4, 160, 203, 0, 1, 0, 0, 0, 4] from rfl, a11_split.1, a11_split.2.1] at this
    exact this)
  have HS2 : Hid (∀ (W : World) A d, Bs W A 16 d ([160, 203, 0, 1, 0, 0, 0, 4] ++ [129, 201, 0, 1, 1, 2, 3, 4]) → Calls Try.prog 12 #[.slice A 16 d] W fun e w' => ∃ A m d, e = .returned (.tuple #[.slice A m d, .int .i64 5]) ∧ True ∧ Below W.heap.size W w') := Lib.hid (fun W A d h => by
    have := KC.split A 16 d ([160, 203, 0, 1, 0, 0, 0, 4] ++ [129, 201, 0, 1, 1, 2, 3, 4]) W h (by decide)
    rw [show ([160, 203, 0, 1, 0, 0, 0, 4] : List UInt8) ++ [129, 201, 0, 1, 1, 2, 3, 4] = [160, 203, 0, 1, 0, 0, 0, 4, 129, 201, 0, 1, 1, 2, 3, 4] from rfl, a11_split.2.2] at this
    refine this.mono ?_
    rintro e w' ⟨A, m, d, rfl, _, hb⟩
    exact ⟨A, m, d, rfl, trivial, hb⟩)
  have HO : Hid (∀ (W : World) A d, Bs W A 8 d [160, 203, 0, 1, 0, 0, 0, 4] → Calls Try.prog 7 #[.slice A 8 d] W fun e w' => ∃ A d, e = .returned (.tuple #[.agg #[.bool true, .int .i64 0, .int .i64 203, .int .i64 8], .slice A 0 d, .int .i64 4, .int .i64 0]) ∧ True ∧ Below W.heap.size W w') := Lib.hid (fun W A d h => by
    have := KC.open_ A 8 d [160, 203, 0, 1, 0, 0, 0, 4] W h (by decide)
    rw [a11_open.1, a11_open.2.1, a11_open.2.2.1, a11_open.2.2.2] at this
    refine this.mono ?_
    rintro e w' ⟨A, d, rfl, _, hb⟩
    exact ⟨A, d, rfl, trivial, hb⟩)
  go_enter Try.func6, Try.ntmps6
  have hf := bs_lit w [1, 2, 3, 4] (List.map byteV [1, 2, 3, 4]).toArray 5 rfl (by decide)
  have hB := below1 w (.cells #[.int .u8 1, .int .u8 2, .int .u8 3, .int .u8 4] 5)
  go_wp2_with fail
  refine (HC1.out _ _ _ hf).mono ?_
  rintro e w2 ⟨A2, c2, rfl, hx, hb⟩
  clear hf
  replace hB := hB.trans (hb.mono hB.size)
  clear hb
  replace hx := hx.bs
  go_wp2_with fail
  refine (HC2.out _).mono ?_
  rintro e w3 ⟨A3, c3, rfl, hy, hb⟩
  replace hx := hx.below hb
  replace hB := hB.trans (hb.mono hB.size)
  clear hb
  replace hy := hy.bs
  have hB0 : Below w3.heap.size w3 (w3.alloc (.cells #[] 5)) := below1 w3 _
  go_wp2_with (first
    | (at_builtin; refine wpList_app2 rfl (.tmp 23) (.tmp 24) 22 rfl w3.heap.size 5 Try.underlying22 byte_info (some ⟨w3.heap.size, 0, none⟩) 0 0 _ rfl (own_empty w3 _ _ (Nat.le_refl _)) A2 8 c2 _ rfl (hx.alloc _) (by omega) (by first | (simp; done) | (simp; omega)) ?_; intro P1 q1 u1 hown1 hgr1 hat1; rw [Nat.zero_add] at hown1; rw [List.nil_append] at hown1; have hBu : Below w3.heap.size w3 u1 := hB0.grown hgr1 (by simp) (fun q hq => by simp [rowOf] at hq; omega); have hsu := hBu.size; rw [Nat.zero_add])
    | (at_builtin; refine wpList_app2 rfl (.tmp 25) (.tmp 26) 22 rfl w3.heap.size 5 Try.underlying22 byte_info P1 8 q1 _ rfl hown1 A3 8 c3 _ rfl (hy.below hBu) (by omega) hsu ?_; intro R1 r1 w4 hj1 hgs1 hau1))
  have hb : Below w3.heap.size w3 w4 := hBu.grown hgs1 hsu (fun q hq => hown1.row_ge q hq)
  replace hx := hx.below hb
  replace hy := hy.below hb
  replace hB := hB.trans (hb.mono hB.size)
  replace hj1 := hj1.bs
  clear hb hB0 hgr1 hat1 hgs1 hau1 hBu hsu hown1
  refine (HS1.out _ _ _ hj1).mono ?_
  rintro e w5 ⟨A5, m5, c5, rfl, hl, hb⟩
  clear hj1
  replace hx := hx.below hb
  replace hy := hy.below hb
  replace hB := hB.trans (hb.mono hB.size)
  clear hb
  have hlm := hl.len
  obtain rfl : m5 = 2 := by simpa using hlm.symm
  clear hlm
  have hB0 : Below w5.heap.size w5 (w5.alloc (.cells #[] 5)) := below1 w5 _
  go_wp2_with (first
    | (at_builtin; refine wpList_app2 rfl (.tmp 32) (.tmp 33) 22 rfl w5.heap.size 5 Try.underlying22 byte_info (some ⟨w5.heap.size, 0, none⟩) 0 0 _ rfl (own_empty w5 _ _ (Nat.le_refl _)) A3 8 c3 _ rfl (hy.alloc _) (by omega) (by first | (simp; done) | (simp; omega)) ?_; intro P2 q2 u2 hown2 hgr2 hat2; rw [Nat.zero_add] at hown2; rw [List.nil_append] at hown2; have hBu : Below w5.heap.size w5 u2 := hB0.grown hgr2 (by simp) (fun q hq => by simp [rowOf] at hq; omega); have hsu := hBu.size; rw [Nat.zero_add])
    | (at_builtin; refine wpList_app2 rfl (.tmp 34) (.tmp 35) 22 rfl w5.heap.size 5 Try.underlying22 byte_info P2 8 q2 _ rfl hown2 A2 8 c2 _ rfl (hx.below hBu) (by omega) hsu ?_; intro R2 r2 w6 hj2 hgs2 hau2))
  have hb : Below w5.heap.size w5 w6 := hBu.grown hgs2 hsu (fun q hq => hown2.row_ge q hq)
  replace hx := hx.below hb
  replace hy := hy.below hb
  replace hl := hl.below hb
  replace hB := hB.trans (hb.mono hB.size)
  replace hj2 := hj2.bs
  clear hb hB0 hgr2 hat2 hgs2 hau2 hBu hsu hown2
  refine (HS2.out _ _ _ hj2).mono ?_
  rintro e w7 ⟨A7, m7, c7, rfl, hz, hb⟩
  clear hj2
  replace hx := hx.below hb
  replace hy := hy.below hb
  replace hl := hl.below hb
  replace hB := hB.trans (hb.mono hB.size)
  clear hb
  go_wp2_with fail
  refine (HO.out _ _ _ hy).mono ?_
  rintro e w8 ⟨A8, c8, rfl, hd, hb⟩
  replace hx := hx.below hb
  replace hy := hy.below hb
  replace hl := hl.below hb
  replace hB := hB.trans (hb.mono hB.size)
  clear hb
  have k9 := Box.new w8 [.bool true, .int .i64 0, .int .i64 203, .int .i64 8] 25
  replace hx := hx.alloc (.cells #[.bool true, .int .i64 0, .int .i64 203, .int .i64 8] 25)
  replace hy := hy.alloc (.cells #[.bool true, .int .i64 0, .int .i64 203, .int .i64 8] 25)
  replace hl := hl.alloc (.cells #[.bool true, .int .i64 0, .int .i64 203, .int .i64 8] 25)
  replace hB := hB.alloc hB.size (.cells #[.bool true, .int .i64 0, .int .i64 203, .int .i64 8] 25)
  have fk9 := k9.all4.1
  obtain ⟨g5, o5, rfl, hlt5, hc5⟩ := hl.at_ (by omega)
  obtain ⟨Ai, ni, ci, hcell, hbi⟩ := hc5 0 (by simp)
  rw [Nat.add_zero] at hcell
  have hni := hbi.len
  obtain rfl : ni = 8 := by simpa using hni.symm
  have t1 := fun j => str_of (hbi.drewN j)
  have t2 := fun j => str_of (hx.drewN j)
  clear hc5
  go_wp2_with fail
  go_quiet (fail)
  go_wp2_with fail
  go_ret
  exact ⟨rfl, below_drewN hB _⟩
end

end Go.Proofs.Ytkfinkmbdpdepaa

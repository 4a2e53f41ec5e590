/-
  The walk of the statement BitsRight.
-/
import Derived.Test.YtpalhllphnfpmaaBitW
namespace Go.Proofs.Ytpalhllphnfpmaa
open Go.RowKit

set_option maxRecDepth 100000 in
set_option maxHeartbeats 400000 in
theorem bitsRight_big (A B : Option Addr) (l c l2 d : Nat) (a err m n : Int) (v o : Nat) (w : World) (hl : l ≤ maxLen) (hl2 : l2 ≤ maxLen) (hbig : 3000 < l ∨ 3000 < l2) :
    Calls Try.prog 3 #[.agg #[.slice A l c, .int .i64 a, .int .i64 err], .agg #[.slice B l2 d, .int .i64 m], .int .i64 n, .int .u64 v, .int .u64 o] w fun e w' => e = .returned (.bool true) ∧ Below w.heap.size w w' := by
  unfold maxLen at hl hl2
  rcases (show 3000 < (l : Int) ∨ ((l : Int) ≤ 3000 ∧ 3000 < (l2 : Int)) by omega) with h | ⟨h0, h⟩
  all_goals
    clear hbig
    go_enter Try.func3, Try.ntmps3
    go_wp2_with fail
    refine (awake_any _).mono ?_
    rintro e w1 ⟨rfl, hb⟩
    have k1 := ((Box.new w _ _).alloc _).call hb
    have k2 := (Box.new (w.alloc _) _ _).call hb
    rw [World.size_alloc] at k2
    have hB := (below2 w _ _).trans (hb.mono (by simp; omega))
    clear hb
    obtain ⟨ck10, ck11, ck12, fk10, fk11, fk12, lk1⟩ := k1.three
    obtain ⟨ck20, ck21, fk20, fk21, lk2⟩ := k2.two
    go_wp2
    go_ret
    exact ⟨rfl, hB⟩

theorem below_chain3 {w a b c : World} (h1 : Below w.drew.heap.size w.drew a) (h2 : Below a.heap.size a b) (h3 : Below b.heap.size b c) : Below w.heap.size w c := by
  have h0 : Below w.heap.size w a := (Below.refl _ w).drew.trans h1
  have h4 := h0.trans (h2.mono h0.size)
  exact h4.trans (h3.mono h4.size)

set_option maxRecDepth 100000 in
set_option maxHeartbeats 4000000 in
theorem bitsRight_main (A B : Option Addr) (l c l2 d : Nat) (s t : List UInt8) (a err m n : Int) (v o : Nat) (w : World) (hs : Bs w A l c s) (ht : Bs w B l2 d t) (hl : l ≤ 3000) (hl2 : l2 ≤ 3000) (ha : (Lit.int .i64 a).wf = true) (hm : (Lit.int .i64 m).wf = true) (hv : v < 18446744073709551616) :
    Calls Try.prog 3 #[.agg #[.slice A l c, .int .i64 a, .int .i64 err], .agg #[.slice B l2 d, .int .i64 m], .int .i64 n, .int .u64 v, .int .u64 o] w fun e w' => e = .returned (.bool true) ∧ Below w.heap.size w w' := by
  obtain ⟨a1, a2⟩ := bound_i64 ha
  obtain ⟨m1, m2⟩ := bound_i64 hm
  have d1 := fun w => rright_any A l c a err w (by omega) a2
  have d2 := fun w hs => bget_any A l c s a err n w hs (by omega)
  have d3 := fun w hs => rget_any A l c s a err n w hs (by omega) a2
  have d4 := fun w => left_any A l c a err w (by omega)
  have d5 := fun w hs => brng_any A l c s a err o w hs (by omega)
  have d6 := fun w hs => rrng_any A l c s a err o w hs (by omega) a2
  have d7 := fun w ht => badd_any B l2 d t m n v w ht (by omega) m2 hv
  have d8 := fun w ht => radd_any B l2 d t m n v w ht (by omega) hv
  have d9 := fun w ht => bright_any B l2 d t m w ht (by omega) m2
  have d10 := fun w ht => rink_any B l2 d t m w ht (by omega)
  have d11 := fun w ht => baddr_any B l2 d t m v o w ht (by omega) m2
  have d12 := fun w ht => raddr_any B l2 d t m v o w ht (by omega)
  have hrd : ∀ q, readerB l a err = q → q = true → err = 0 ∧ 0 ≤ a ∧ a ≤ 8 * (l : Int) := fun q h1 h2 => readerB_yes (h1.trans h2)
  generalize readerB l a err = rq at *
  generalize bgetA s.length a err n = gA at *
  generalize bgetE s.length a err n = gE at *
  generalize bgetV s a err n = gV at *
  generalize brngA s a err o = rA at *
  generalize brngE s a err o = rE at *
  generalize brngV s a err o = rV at *
  generalize inkB t m = iq at *
  generalize addB t m v n = pB at *
  generalize addM t m v n = pM at *
  generalize addE t m v n = pE at *
  generalize addrB t m v o = qB at *
  generalize addrM t m v o = qM at *
  generalize addrE t m v o = qE at *
  have hreader := hrd rq rfl
  have D1 := Lib.hid d1
  have D2 := Lib.hid d2
  have D3 := Lib.hid d3
  have D4 := Lib.hid d4
  have D5 := Lib.hid d5
  have D6 := Lib.hid d6
  have D7 := Lib.hid d7
  have D8 := Lib.hid d8
  have D9 := Lib.hid d9
  have D10 := Lib.hid d10
  have D11 := Lib.hid d11
  have D12 := Lib.hid d12
  clear d1 d2 d3 d4 d5 d6 d7 d8 d9 d10 d11 d12 hrd
  have hleft : rq = true → (if rq = true then 8 * (l : Int) - a else 0) = 8 * (l : Int) - a := fun h => if_pos h
  cases rq
  all_goals
    first
      | (obtain ⟨he, h0, h1⟩ := hreader rfl; subst he)
      | skip
    simp only [Bool.false_eq_true, if_false, if_true] at D4
    clear hreader hleft
    go_enter Try.func3, Try.ntmps3
    go_wp2_with fail
    refine (awake_any _).mono ?_
    rintro e w1 ⟨rfl, hb⟩
    have k1 := ((Box.new w _ _).alloc _).call hb
    have k2 := (Box.new (w.alloc _) _ _).call hb
    rw [World.size_alloc] at k2
    replace hs := ((hs.alloc _).alloc _).below hb
    replace ht := ((ht.alloc _).alloc _).below hb
    have hB := (below2 w _ _).trans (hb.mono (by simp; omega))
    clear hb
    obtain ⟨ck10, ck11, ck12, fk10, fk11, fk12, lk1⟩ := k1.three
    obtain ⟨ck20, ck21, fk20, fk21, lk2⟩ := k2.two
    go_wp2_with fail
    refine (D1.out _).mono ?_
    rintro e w2 ⟨rfl, hb⟩
    clear ck10 ck11 ck12 fk10 fk11 fk12 lk1 ck20 ck21 fk20 fk21 lk2
    replace hs := hs.below hb
    replace ht := ht.below hb
    replace k1 := k1.call hb
    replace k2 := k2.call hb
    replace hB := hB.trans (hb.mono hB.size)
    clear hb
    obtain ⟨ck10, ck11, ck12, fk10, fk11, fk12, lk1⟩ := k1.three
    obtain ⟨ck20, ck21, fk20, fk21, lk2⟩ := k2.two
    go_wp2_with fail
    refine (D2.out _ hs).mono ?_
    rintro e w3 ⟨rfl, hb⟩
    clear ck10 ck11 ck12 fk10 fk11 fk12 lk1 ck20 ck21 fk20 fk21 lk2
    replace hs := hs.below hb
    replace ht := ht.below hb
    replace k1 := k1.call hb
    replace k2 := k2.call hb
    replace hB := hB.trans (hb.mono hB.size)
    clear hb
    obtain ⟨ck10, ck11, ck12, fk10, fk11, fk12, lk1⟩ := k1.three
    obtain ⟨ck20, ck21, fk20, fk21, lk2⟩ := k2.two
    go_wp2_with fail
    clear ck10 ck11 ck12 fk10 fk11 fk12 lk1 ck20 ck21 fk20 fk21 lk2
    have qk1ka : w.heap.size ≠ w3.heap.size := Nat.ne_of_lt k1.2.2
    have qkak1 : w3.heap.size ≠ w.heap.size := qk1ka.symm
    have qk2ka : (w.heap.size + 1) ≠ w3.heap.size := Nat.ne_of_lt k2.2.2
    have qkak2 : w3.heap.size ≠ (w.heap.size + 1) := qk2ka.symm
    have hbka := hB.size
    have ka := Box.new w3 [.slice A l c, .int .i64 gA, .int .i64 gE] 25
    replace hs := hs.alloc (.cells #[.slice A l c, .int .i64 gA, .int .i64 gE] 25)
    replace ht := ht.alloc (.cells #[.slice A l c, .int .i64 gA, .int .i64 gE] 25)
    replace k1 := k1.alloc (.cells #[.slice A l c, .int .i64 gA, .int .i64 gE] 25)
    replace k2 := k2.alloc (.cells #[.slice A l c, .int .i64 gA, .int .i64 gE] 25)
    replace hB := hB.alloc hB.size (.cells #[.slice A l c, .int .i64 gA, .int .i64 gE] 25)
    refine (D3.out _ hs).mono ?_
    rintro e w4 ⟨rfl, hb⟩
    replace hs := hs.below hb
    replace ht := ht.below hb
    replace k1 := k1.call hb
    replace k2 := k2.call hb
    replace ka := ka.call hb
    replace hB := hB.trans (hb.mono hB.size)
    clear hb
    obtain ⟨ck10, ck11, ck12, fk10, fk11, fk12, lk1⟩ := k1.three
    obtain ⟨ck20, ck21, fk20, fk21, lk2⟩ := k2.two
    obtain ⟨cka0, cka1, cka2, fka0, fka1, fka2, lka⟩ := ka.three
    go_wp2_with fail
    clear ck10 ck11 ck12 fk10 fk11 fk12 lk1 ck20 ck21 fk20 fk21 lk2 cka0 cka1 cka2 fka0 fka1 fka2 lka
    have qk1kb : w.heap.size ≠ w4.heap.size := Nat.ne_of_lt k1.2.2
    have qkbk1 : w4.heap.size ≠ w.heap.size := qk1kb.symm
    have qk2kb : (w.heap.size + 1) ≠ w4.heap.size := Nat.ne_of_lt k2.2.2
    have qkbk2 : w4.heap.size ≠ (w.heap.size + 1) := qk2kb.symm
    have qkakb : w3.heap.size ≠ w4.heap.size := Nat.ne_of_lt ka.2.2
    have qkbka : w4.heap.size ≠ w3.heap.size := qkakb.symm
    have hbkb := hB.size
    have kb := Box.new w4 [.slice A l c, .int .i64 gA, .int .i64 gE] 25
    replace hs := hs.alloc (.cells #[.slice A l c, .int .i64 gA, .int .i64 gE] 25)
    replace ht := ht.alloc (.cells #[.slice A l c, .int .i64 gA, .int .i64 gE] 25)
    replace k1 := k1.alloc (.cells #[.slice A l c, .int .i64 gA, .int .i64 gE] 25)
    replace k2 := k2.alloc (.cells #[.slice A l c, .int .i64 gA, .int .i64 gE] 25)
    replace ka := ka.alloc (.cells #[.slice A l c, .int .i64 gA, .int .i64 gE] 25)
    replace hB := hB.alloc hB.size (.cells #[.slice A l c, .int .i64 gA, .int .i64 gE] 25)
    refine (D4.out _).mono ?_
    rintro e w5 ⟨rfl, hb⟩
    replace hs := hs.below hb
    replace ht := ht.below hb
    replace k1 := k1.call hb
    replace k2 := k2.call hb
    replace ka := ka.call hb
    replace kb := kb.call hb
    replace hB := hB.trans (hb.mono hB.size)
    clear hb
    obtain ⟨ck10, ck11, ck12, fk10, fk11, fk12, lk1⟩ := k1.three
    obtain ⟨ck20, ck21, fk20, fk21, lk2⟩ := k2.two
    obtain ⟨cka0, cka1, cka2, fka0, fka1, fka2, lka⟩ := ka.three
    obtain ⟨ckb0, ckb1, ckb2, fkb0, fkb1, fkb2, lkb⟩ := kb.three
    go_wp2_with fail
    refine (rsame_yes A A l c c s gA gE _ hs hs).mono ?_
    rintro e w6 ⟨rfl, hb⟩
    clear ck10 ck11 ck12 fk10 fk11 fk12 lk1 ck20 ck21 fk20 fk21 lk2 cka0 cka1 cka2 fka0 fka1 fka2 lka ckb0 ckb1 ckb2 fkb0 fkb1 fkb2 lkb
    replace hs := hs.below hb
    replace ht := ht.below hb
    replace k1 := k1.call hb
    replace k2 := k2.call hb
    replace ka := ka.call hb
    replace kb := kb.call hb
    replace hB := hB.trans (hb.mono hB.size)
    clear hb
    obtain ⟨ck10, ck11, ck12, fk10, fk11, fk12, lk1⟩ := k1.three
    obtain ⟨ck20, ck21, fk20, fk21, lk2⟩ := k2.two
    obtain ⟨cka0, cka1, cka2, fka0, fka1, fka2, lka⟩ := ka.three
    obtain ⟨ckb0, ckb1, ckb2, fkb0, fkb1, fkb2, lkb⟩ := kb.three
    go_wp2_with fail
    refine (D5.out _ hs).mono ?_
    rintro e w7 ⟨rfl, hb⟩
    clear ck10 ck11 ck12 fk10 fk11 fk12 lk1 ck20 ck21 fk20 fk21 lk2 cka0 cka1 cka2 fka0 fka1 fka2 lka ckb0 ckb1 ckb2 fkb0 fkb1 fkb2 lkb
    replace hs := hs.below hb
    replace ht := ht.below hb
    replace k1 := k1.call hb
    replace k2 := k2.call hb
    replace ka := ka.call hb
    replace kb := kb.call hb
    replace hB := hB.trans (hb.mono hB.size)
    clear hb
    obtain ⟨ck10, ck11, ck12, fk10, fk11, fk12, lk1⟩ := k1.three
    obtain ⟨ck20, ck21, fk20, fk21, lk2⟩ := k2.two
    obtain ⟨cka0, cka1, cka2, fka0, fka1, fka2, lka⟩ := ka.three
    obtain ⟨ckb0, ckb1, ckb2, fkb0, fkb1, fkb2, lkb⟩ := kb.three
    go_wp2_with fail
    clear ck10 ck11 ck12 fk10 fk11 fk12 lk1 ck20 ck21 fk20 fk21 lk2 cka0 cka1 cka2 fka0 fka1 fka2 lka ckb0 ckb1 ckb2 fkb0 fkb1 fkb2 lkb
    replace hs := hs.box3 ka (.slice A l c) (.int .i64 rA) (.int .i64 rE)
    replace ht := ht.box3 ka (.slice A l c) (.int .i64 rA) (.int .i64 rE)
    replace k1 := (((k1.other (p := ⟨w3.heap.size, 0, none⟩) (.slice A l c) qkak1).other (p := ⟨w3.heap.size, 1, none⟩) (.int .i64 rA) qkak1).other (p := ⟨w3.heap.size, 2, none⟩) (.int .i64 rE) qkak1)
    replace k2 := (((k2.other (p := ⟨w3.heap.size, 0, none⟩) (.slice A l c) qkak2).other (p := ⟨w3.heap.size, 1, none⟩) (.int .i64 rA) qkak2).other (p := ⟨w3.heap.size, 2, none⟩) (.int .i64 rE) qkak2)
    replace kb := (((kb.other (p := ⟨w3.heap.size, 0, none⟩) (.slice A l c) qkakb).other (p := ⟨w3.heap.size, 1, none⟩) (.int .i64 rA) qkakb).other (p := ⟨w3.heap.size, 2, none⟩) (.int .i64 rE) qkakb)
    replace ka := ka.put3 (.slice A l c) (.int .i64 rA) (.int .i64 rE)
    replace hB := below_put3 hB hbka (.slice A l c) (.int .i64 rA) (.int .i64 rE)
    refine (D6.out _ hs).mono ?_
    rintro e w8 ⟨rfl, hb⟩
    replace hs := hs.below hb
    replace ht := ht.below hb
    replace k1 := k1.call hb
    replace k2 := k2.call hb
    replace ka := ka.call hb
    replace kb := kb.call hb
    replace hB := hB.trans (hb.mono hB.size)
    clear hb
    obtain ⟨ck10, ck11, ck12, fk10, fk11, fk12, lk1⟩ := k1.three
    obtain ⟨ck20, ck21, fk20, fk21, lk2⟩ := k2.two
    obtain ⟨cka0, cka1, cka2, fka0, fka1, fka2, lka⟩ := ka.three
    obtain ⟨ckb0, ckb1, ckb2, fkb0, fkb1, fkb2, lkb⟩ := kb.three
    go_wp2_with fail
    clear ck10 ck11 ck12 fk10 fk11 fk12 lk1 ck20 ck21 fk20 fk21 lk2 cka0 cka1 cka2 fka0 fka1 fka2 lka ckb0 ckb1 ckb2 fkb0 fkb1 fkb2 lkb
    replace hs := hs.box3 kb (.slice A l c) (.int .i64 rA) (.int .i64 rE)
    replace ht := ht.box3 kb (.slice A l c) (.int .i64 rA) (.int .i64 rE)
    replace k1 := (((k1.other (p := ⟨w4.heap.size, 0, none⟩) (.slice A l c) qkbk1).other (p := ⟨w4.heap.size, 1, none⟩) (.int .i64 rA) qkbk1).other (p := ⟨w4.heap.size, 2, none⟩) (.int .i64 rE) qkbk1)
    replace k2 := (((k2.other (p := ⟨w4.heap.size, 0, none⟩) (.slice A l c) qkbk2).other (p := ⟨w4.heap.size, 1, none⟩) (.int .i64 rA) qkbk2).other (p := ⟨w4.heap.size, 2, none⟩) (.int .i64 rE) qkbk2)
    replace ka := (((ka.other (p := ⟨w4.heap.size, 0, none⟩) (.slice A l c) qkbka).other (p := ⟨w4.heap.size, 1, none⟩) (.int .i64 rA) qkbka).other (p := ⟨w4.heap.size, 2, none⟩) (.int .i64 rE) qkbka)
    replace kb := kb.put3 (.slice A l c) (.int .i64 rA) (.int .i64 rE)
    replace hB := below_put3 hB hbkb (.slice A l c) (.int .i64 rA) (.int .i64 rE)
    refine (rsame_yes A A l c c s rA rE _ hs hs).mono ?_
    rintro e w9 ⟨rfl, hb⟩
    replace hs := hs.below hb
    replace ht := ht.below hb
    replace k1 := k1.call hb
    replace k2 := k2.call hb
    replace ka := ka.call hb
    replace kb := kb.call hb
    replace hB := hB.trans (hb.mono hB.size)
    clear hb
    obtain ⟨ck10, ck11, ck12, fk10, fk11, fk12, lk1⟩ := k1.three
    obtain ⟨ck20, ck21, fk20, fk21, lk2⟩ := k2.two
    obtain ⟨cka0, cka1, cka2, fka0, fka1, fka2, lka⟩ := ka.three
    obtain ⟨ckb0, ckb1, ckb2, fkb0, fkb1, fkb2, lkb⟩ := kb.three
    go_wp2_with fail
    refine (D7.out _ ht).mono ?_
    rintro e w10 ⟨Ap, cp, rfl, hp, hb⟩
    clear ck10 ck11 ck12 fk10 fk11 fk12 lk1 ck20 ck21 fk20 fk21 lk2 cka0 cka1 cka2 fka0 fka1 fka2 lka ckb0 ckb1 ckb2 fkb0 fkb1 fkb2 lkb
    replace hs := hs.below hb
    replace ht := ht.below hb
    replace k1 := k1.call hb
    replace k2 := k2.call hb
    replace ka := ka.call hb
    replace kb := kb.call hb
    replace hB := hB.trans (hb.mono hB.size)
    clear hb
    obtain ⟨ck10, ck11, ck12, fk10, fk11, fk12, lk1⟩ := k1.three
    obtain ⟨ck20, ck21, fk20, fk21, lk2⟩ := k2.two
    generalize hpl : pB.length = pl at *
    have HPL := Lib.hid hpl
    clear hpl
    go_wp2_with fail
    clear ck10 ck11 ck12 fk10 fk11 fk12 lk1 ck20 ck21 fk20 fk21 lk2
    have qk1kp : w.heap.size ≠ w10.heap.size := Nat.ne_of_lt k1.2.2
    have qkpk1 : w10.heap.size ≠ w.heap.size := qk1kp.symm
    have qk2kp : (w.heap.size + 1) ≠ w10.heap.size := Nat.ne_of_lt k2.2.2
    have qkpk2 : w10.heap.size ≠ (w.heap.size + 1) := qk2kp.symm
    have qkakp : w3.heap.size ≠ w10.heap.size := Nat.ne_of_lt ka.2.2
    have qkpka : w10.heap.size ≠ w3.heap.size := qkakp.symm
    have qkbkp : w4.heap.size ≠ w10.heap.size := Nat.ne_of_lt kb.2.2
    have qkpkb : w10.heap.size ≠ w4.heap.size := qkbkp.symm
    have hbkp := hB.size
    have kp := Box.new w10 [.slice Ap pl cp, .int .i64 pM] 27
    replace hs := hs.alloc (.cells #[.slice Ap pl cp, .int .i64 pM] 27)
    replace ht := ht.alloc (.cells #[.slice Ap pl cp, .int .i64 pM] 27)
    replace hp := hp.alloc (.cells #[.slice Ap pl cp, .int .i64 pM] 27)
    replace k1 := k1.alloc (.cells #[.slice Ap pl cp, .int .i64 pM] 27)
    replace k2 := k2.alloc (.cells #[.slice Ap pl cp, .int .i64 pM] 27)
    replace ka := ka.alloc (.cells #[.slice Ap pl cp, .int .i64 pM] 27)
    replace kb := kb.alloc (.cells #[.slice Ap pl cp, .int .i64 pM] 27)
    replace hB := hB.alloc hB.size (.cells #[.slice Ap pl cp, .int .i64 pM] 27)
    refine (D8.out _ ht).mono ?_
    rintro e w11 ⟨Aq, cq, rfl, hq, hb⟩
    rw [HPL.out] at hq ⊢
    replace hs := hs.below hb
    replace ht := ht.below hb
    replace hp := hp.below hb
    replace k1 := k1.call hb
    replace k2 := k2.call hb
    replace ka := ka.call hb
    replace kb := kb.call hb
    replace kp := kp.call hb
    replace hB := hB.trans (hb.mono hB.size)
    clear hb
    obtain ⟨ck10, ck11, ck12, fk10, fk11, fk12, lk1⟩ := k1.three
    obtain ⟨ck20, ck21, fk20, fk21, lk2⟩ := k2.two
    obtain ⟨ckp0, ckp1, fkp0, fkp1, lkp⟩ := kp.two
    go_upto_region 18 with fail
    clear ck10 ck11 ck12 fk10 fk11 fk12 lk1 ck20 ck21 fk20 fk21 lk2 ckp0 ckp1 fkp0 fkp1 lkp
    have qk1kq : w.heap.size ≠ w11.heap.size := Nat.ne_of_lt k1.2.2
    have qkqk1 : w11.heap.size ≠ w.heap.size := qk1kq.symm
    have qk2kq : (w.heap.size + 1) ≠ w11.heap.size := Nat.ne_of_lt k2.2.2
    have qkqk2 : w11.heap.size ≠ (w.heap.size + 1) := qk2kq.symm
    have qkakq : w3.heap.size ≠ w11.heap.size := Nat.ne_of_lt ka.2.2
    have qkqka : w11.heap.size ≠ w3.heap.size := qkakq.symm
    have qkbkq : w4.heap.size ≠ w11.heap.size := Nat.ne_of_lt kb.2.2
    have qkqkb : w11.heap.size ≠ w4.heap.size := qkbkq.symm
    have qkpkq : w10.heap.size ≠ w11.heap.size := Nat.ne_of_lt kp.2.2
    have qkqkp : w11.heap.size ≠ w10.heap.size := qkpkq.symm
    have hbkq := hB.size
    have kq := Box.new w11 [.slice Aq pl cq, .int .i64 pM] 27
    replace hs := hs.alloc (.cells #[.slice Aq pl cq, .int .i64 pM] 27)
    replace ht := ht.alloc (.cells #[.slice Aq pl cq, .int .i64 pM] 27)
    replace hp := hp.alloc (.cells #[.slice Aq pl cq, .int .i64 pM] 27)
    replace hq := hq.alloc (.cells #[.slice Aq pl cq, .int .i64 pM] 27)
    replace k1 := k1.alloc (.cells #[.slice Aq pl cq, .int .i64 pM] 27)
    replace k2 := k2.alloc (.cells #[.slice Aq pl cq, .int .i64 pM] 27)
    replace ka := ka.alloc (.cells #[.slice Aq pl cq, .int .i64 pM] 27)
    replace kb := kb.alloc (.cells #[.slice Aq pl cq, .int .i64 pM] 27)
    replace kp := kp.alloc (.cells #[.slice Aq pl cq, .int .i64 pM] 27)
    replace hB := hB.alloc hB.size (.cells #[.slice Aq pl cq, .int .i64 pM] 27)
    generalize w11.alloc (.cells #[.slice Aq pl cq, .int .i64 pM] 27) = w12 at *
    obtain ⟨ck20, ck21, fk20, fk21, lk2⟩ := k2.two
    obtain ⟨ckp0, ckp1, fkp0, fkp1, lkp⟩ := kp.two
    obtain ⟨ckq0, ckq1, fkq0, fkq1, lkq⟩ := kq.two
    go_cut [118] (fun q W => q = .bool false ∧ Below w12.heap.size w12 W)
    case first =>
      go_region_held3 (fun W => W.cell? ⟨w.heap.size + 1, 0, none⟩ = some (.slice B l2 d) ∧ W.cell? ⟨w.heap.size + 1, 1, none⟩ = some (.int .i64 m) ∧ W.cell? ⟨w10.heap.size, 0, none⟩ = some (.slice Ap pl cp) ∧ W.cell? ⟨w10.heap.size, 1, none⟩ = some (.int .i64 pM) ∧ W.cell? ⟨w11.heap.size, 0, none⟩ = some (.slice Aq pl cq) ∧ W.cell? ⟨w11.heap.size, 1, none⟩ = some (.int .i64 pM))
        (go_keep)
        (first | (go_at_call 17; refine (D9.out _ (by first | exact ht | exact Bs.below (w := w12.drew) ht hbI)).mono ?_; rintro e wR ⟨rfl, hbR⟩; have zRk2 : Box wR (w.heap.size + 1) [.slice B l2 d, .int .i64 m] := (by first | exact Box.call (w := w12.drew) k2 hbR | exact (Box.call (w := w12.drew) k2 hbI).call hbR); obtain ⟨yRk20, yRk21, _, _, _⟩ := zRk2.two; have zRkp : Box wR w10.heap.size [.slice Ap pl cp, .int .i64 pM] := (by first | exact Box.call (w := w12.drew) kp hbR | exact (Box.call (w := w12.drew) kp hbI).call hbR); obtain ⟨yRkp0, yRkp1, _, _, _⟩ := zRkp.two; have zRkq : Box wR w11.heap.size [.slice Aq pl cq, .int .i64 pM] := (by first | exact Box.call (w := w12.drew) kq hbR | exact (Box.call (w := w12.drew) kq hbI).call hbR); obtain ⟨yRkq0, yRkq1, _, _, _⟩ := zRkq.two) | (go_at_call 18; refine (D10.out _ (by first | exact ht | exact Bs.below (w := w12.drew) ht hbR)).mono ?_; rintro e wI ⟨rfl, hbI⟩; have zIk2 : Box wI (w.heap.size + 1) [.slice B l2 d, .int .i64 m] := (by first | exact Box.call (w := w12.drew) k2 hbI | exact (Box.call (w := w12.drew) k2 hbR).call hbI); obtain ⟨yIk20, yIk21, _, _, _⟩ := zIk2.two; have zIkp : Box wI w10.heap.size [.slice Ap pl cp, .int .i64 pM] := (by first | exact Box.call (w := w12.drew) kp hbI | exact (Box.call (w := w12.drew) kp hbR).call hbI); obtain ⟨yIkp0, yIkp1, _, _, _⟩ := zIkp.two; have zIkq : Box wI w11.heap.size [.slice Aq pl cq, .int .i64 pM] := (by first | exact Box.call (w := w12.drew) kq hbI | exact (Box.call (w := w12.drew) kq hbR).call hbI); obtain ⟨yIkq0, yIkq1, _, _, _⟩ := zIkq.two) | (go_at_call 19; refine (rsameInk_yes Ap Aq pl cp cq pB pM _ (by first | exact (Bs.below (w := w12.drew) hp hbR).below hbI | exact (Bs.below (w := w12.drew) hp hbI).below hbR) (by first | exact (Bs.below (w := w12.drew) hq hbR).below hbI | exact (Bs.below (w := w12.drew) hq hbI).below hbR)).mono ?_; rintro e wS ⟨rfl, hbS⟩; have zSk2 : Box wS (w.heap.size + 1) [.slice B l2 d, .int .i64 m] := (by first | exact ((Box.call (w := w12.drew) k2 hbR).call hbI).call hbS | exact ((Box.call (w := w12.drew) k2 hbI).call hbR).call hbS); obtain ⟨ySk20, ySk21, _, _, _⟩ := zSk2.two; have zSkp : Box wS w10.heap.size [.slice Ap pl cp, .int .i64 pM] := (by first | exact ((Box.call (w := w12.drew) kp hbR).call hbI).call hbS | exact ((Box.call (w := w12.drew) kp hbI).call hbR).call hbS); obtain ⟨ySkp0, ySkp1, _, _, _⟩ := zSkp.two; have zSkq : Box wS w11.heap.size [.slice Aq pl cq, .int .i64 pM] := (by first | exact ((Box.call (w := w12.drew) kq hbR).call hbI).call hbS | exact ((Box.call (w := w12.drew) kq hbI).call hbR).call hbS); obtain ⟨ySkq0, ySkq1, _, _, _⟩ := zSkq.two))
      all_goals
        go_wp2_with fail
        go_meet
        first
          | exact ⟨rfl, below_chain3 hbR hbI hbS⟩
          | exact ⟨rfl, below_chain3 hbI hbR hbS⟩
    case rest =>
      obtain ⟨rfl, hb⟩ := hcut
      clear ck20 ck21 fk20 fk21 lk2 ckp0 ckp1 fkp0 fkp1 lkp ckq0 ckq1 fkq0 fkq1 lkq
      replace hs := hs.below hb
      replace ht := ht.below hb
      replace hp := hp.below hb
      replace hq := hq.below hb
      replace k1 := k1.call hb
      replace k2 := k2.call hb
      replace ka := ka.call hb
      replace kb := kb.call hb
      replace kp := kp.call hb
      replace kq := kq.call hb
      replace hB := hB.trans (hb.mono hB.size)
      clear hb
      obtain ⟨ck20, ck21, fk20, fk21, lk2⟩ := k2.two
      obtain ⟨ckp0, ckp1, fkp0, fkp1, lkp⟩ := kp.two
      obtain ⟨ckq0, ckq1, fkq0, fkq1, lkq⟩ := kq.two
      go_wp2_with fail
      refine (D11.out _ ht).mono ?_
      rintro e w14 ⟨Ar, cr, rfl, hr, hb⟩
      clear ck20 ck21 fk20 fk21 lk2 ckp0 ckp1 fkp0 fkp1 lkp ckq0 ckq1 fkq0 fkq1 lkq
      replace hs := hs.below hb
      replace ht := ht.below hb
      replace hp := hp.below hb
      replace hq := hq.below hb
      replace k1 := k1.call hb
      replace k2 := k2.call hb
      replace ka := ka.call hb
      replace kb := kb.call hb
      replace kp := kp.call hb
      replace kq := kq.call hb
      replace hB := hB.trans (hb.mono hB.size)
      clear hb
      obtain ⟨ck20, ck21, fk20, fk21, lk2⟩ := k2.two
      obtain ⟨ckp0, ckp1, fkp0, fkp1, lkp⟩ := kp.two
      obtain ⟨ckq0, ckq1, fkq0, fkq1, lkq⟩ := kq.two
      generalize hql : qB.length = ql at *
      have HQL := Lib.hid hql
      clear hql
      go_wp2_with fail
      clear ck20 ck21 fk20 fk21 lk2 ckp0 ckp1 fkp0 fkp1 lkp ckq0 ckq1 fkq0 fkq1 lkq
      replace hs := hs.box2 kp (.slice Ar ql cr) (.int .i64 qM)
      replace ht := ht.box2 kp (.slice Ar ql cr) (.int .i64 qM)
      replace hr := hr.box2 kp (.slice Ar ql cr) (.int .i64 qM)
      replace k1 := ((k1.other (p := ⟨w10.heap.size, 0, none⟩) (.slice Ar ql cr) qkpk1).other (p := ⟨w10.heap.size, 1, none⟩) (.int .i64 qM) qkpk1)
      replace k2 := ((k2.other (p := ⟨w10.heap.size, 0, none⟩) (.slice Ar ql cr) qkpk2).other (p := ⟨w10.heap.size, 1, none⟩) (.int .i64 qM) qkpk2)
      replace ka := ((ka.other (p := ⟨w10.heap.size, 0, none⟩) (.slice Ar ql cr) qkpka).other (p := ⟨w10.heap.size, 1, none⟩) (.int .i64 qM) qkpka)
      replace kb := ((kb.other (p := ⟨w10.heap.size, 0, none⟩) (.slice Ar ql cr) qkpkb).other (p := ⟨w10.heap.size, 1, none⟩) (.int .i64 qM) qkpkb)
      replace kq := ((kq.other (p := ⟨w10.heap.size, 0, none⟩) (.slice Ar ql cr) qkpkq).other (p := ⟨w10.heap.size, 1, none⟩) (.int .i64 qM) qkpkq)
      replace kp := kp.put2 (.slice Ar ql cr) (.int .i64 qM)
      replace hB := below_put2 hB hbkp (.slice Ar ql cr) (.int .i64 qM)
      refine (D12.out _ ht).mono ?_
      rintro e w15 ⟨At, ct, rfl, hq, hb⟩
      rw [HQL.out] at hq ⊢
      replace hs := hs.below hb
      replace ht := ht.below hb
      replace hr := hr.below hb
      replace k1 := k1.call hb
      replace k2 := k2.call hb
      replace ka := ka.call hb
      replace kb := kb.call hb
      replace kp := kp.call hb
      replace kq := kq.call hb
      replace hB := hB.trans (hb.mono hB.size)
      clear hb
      obtain ⟨ck20, ck21, fk20, fk21, lk2⟩ := k2.two
      obtain ⟨ckp0, ckp1, fkp0, fkp1, lkp⟩ := kp.two
      obtain ⟨ckq0, ckq1, fkq0, fkq1, lkq⟩ := kq.two
      go_wp2_with fail
      clear ck20 ck21 fk20 fk21 lk2 ckp0 ckp1 fkp0 fkp1 lkp ckq0 ckq1 fkq0 fkq1 lkq
      replace hs := hs.box2 kq (.slice At ql ct) (.int .i64 qM)
      replace ht := ht.box2 kq (.slice At ql ct) (.int .i64 qM)
      replace hr := hr.box2 kq (.slice At ql ct) (.int .i64 qM)
      replace hq := hq.box2 kq (.slice At ql ct) (.int .i64 qM)
      replace k1 := ((k1.other (p := ⟨w11.heap.size, 0, none⟩) (.slice At ql ct) qkqk1).other (p := ⟨w11.heap.size, 1, none⟩) (.int .i64 qM) qkqk1)
      replace k2 := ((k2.other (p := ⟨w11.heap.size, 0, none⟩) (.slice At ql ct) qkqk2).other (p := ⟨w11.heap.size, 1, none⟩) (.int .i64 qM) qkqk2)
      replace ka := ((ka.other (p := ⟨w11.heap.size, 0, none⟩) (.slice At ql ct) qkqka).other (p := ⟨w11.heap.size, 1, none⟩) (.int .i64 qM) qkqka)
      replace kb := ((kb.other (p := ⟨w11.heap.size, 0, none⟩) (.slice At ql ct) qkqkb).other (p := ⟨w11.heap.size, 1, none⟩) (.int .i64 qM) qkqkb)
      replace kp := ((kp.other (p := ⟨w11.heap.size, 0, none⟩) (.slice At ql ct) qkqkp).other (p := ⟨w11.heap.size, 1, none⟩) (.int .i64 qM) qkqkp)
      replace kq := kq.put2 (.slice At ql ct) (.int .i64 qM)
      replace hB := below_put2 hB hbkq (.slice At ql ct) (.int .i64 qM)
      refine (rsameInk_yes Ar At ql cr ct qB qM _ hr hq).mono ?_
      rintro e w16 ⟨rfl, hb⟩
      replace hs := hs.below hb
      replace ht := ht.below hb
      replace hr := hr.below hb
      replace hq := hq.below hb
      replace k1 := k1.call hb
      replace k2 := k2.call hb
      replace ka := ka.call hb
      replace kb := kb.call hb
      replace kp := kp.call hb
      replace kq := kq.call hb
      replace hB := hB.trans (hb.mono hB.size)
      clear hb
      obtain ⟨ck20, ck21, fk20, fk21, lk2⟩ := k2.two
      obtain ⟨ckp0, ckp1, fkp0, fkp1, lkp⟩ := kp.two
      obtain ⟨ckq0, ckq1, fkq0, fkq1, lkq⟩ := kq.two
      go_wp2
      go_ret
      exact ⟨rfl, hB⟩
theorem bitsRight_all (A B : Option Addr) (l c l2 d : Nat) (s t : List UInt8) (a err m n v o : Int) (w : World) (hs : Bs w A l c s) (ht : Bs w B l2 d t) (ha : (Lit.int .i64 a).wf = true) (hm : (Lit.int .i64 m).wf = true) (hv : (Lit.int .u64 v).wf = true) (ho : (Lit.int .u64 o).wf = true) :
    Calls Try.prog 3 #[.agg #[.slice A l c, .int .i64 a, .int .i64 err], .agg #[.slice B l2 d, .int .i64 m], .int .i64 n, .int .u64 v, .int .u64 o] w fun e w' => e = .returned (.bool true) ∧ Below w.heap.size w w' := by
  obtain ⟨v1, v2⟩ := bound_u64 hv
  obtain ⟨o1, o2⟩ := bound_u64 ho
  obtain ⟨v, rfl⟩ := Int.eq_ofNat_of_zero_le v1
  obtain ⟨o, rfl⟩ := Int.eq_ofNat_of_zero_le o1
  have h1 := hs.le
  have h2 := hs.cap
  have h3 := ht.le
  have h4 := ht.cap
  by_cases hbig : 3000 < l ∨ 3000 < l2
  · exact bitsRight_big A B l c l2 d a err m n v o w (by omega) (by omega) hbig
  · exact bitsRight_main A B l c l2 d s t a err m n v o w hs ht (by omega) (by omega) ha hm (by omega)

end Go.Proofs.Ytpalhllphnfpmaa

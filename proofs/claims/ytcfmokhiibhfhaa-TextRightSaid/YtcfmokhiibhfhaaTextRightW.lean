/-
  The walk of the statement TextRight, by the contracts of package text's calls.
-/
import Derived.Test.YtcfmokhiibhfhaaTextK
namespace Go.Proofs.Ytcfmokhiibhfhaa
open Go.RowKit

set_option maxRecDepth 100000 in
set_option maxHeartbeats 400000 in
theorem textRight_big (K : TextCalls) (s : ByteArray) (w : World) (hl : 3000 < s.size) (hm : s.size ≤ maxLen) :
    Calls Try.prog 3 #[.string s] w fun e w' => e = .returned (.bool true) ∧ Below w.heap.size w w' := by
  unfold maxLen at hm
  go_enter Try.func3, Try.ntmps3
  go_wp2_with fail
  refine (awake_any K _).mono ?_
  rintro e w1 ⟨rfl, hb1⟩
  go_wp2
  go_ret
  exact ⟨rfl, hb1⟩

set_option maxRecDepth 100000 in
set_option maxHeartbeats 2000000 in
theorem textRight_main (K : TextCalls) (s : ByteArray) (w : World) (hs : s.size ≤ 3000) :
    Calls Try.prog 3 #[.string s] w fun e w' => e = .returned (.bool true) ∧ Below w.heap.size w w' := by
  have T1 := Lib.hid (fun w => K.tok s w (by omega))
  have T2 := Lib.hid (fun w => rtoken_any s w (by omega))
  have M1 := Lib.hid (fun w => K.may s w (by omega))
  have M2 := Lib.hid (fun w => rmay_any s w (by omega))
  have R1 := Lib.hid (fun w => K.runes s w (by omega))
  have R2 := Lib.hid (fun w => rrunes_any s w (by omega))
  have Q1 := Lib.hid (fun w => K.quote s w (by omega))
  have Q2 := Lib.hid (fun w => rquote_any s w (by omega))
  have hu : (unqE s.data.toList = .tuple #[.string ⟨#[]⟩, .int .i64 6] ∧ unqR s.data.toList = .tuple #[.string ⟨#[]⟩, .bool false]) ∨ ∃ x, unqE s.data.toList = .tuple #[.string ⟨x⟩, .int .i64 0] ∧ unqR s.data.toList = .tuple #[.string ⟨x⟩, .bool true] := by
    cases h : unqB s.data.toList with
    | none => exact .inl ⟨unqE_none h, unqR_none h⟩
    | some x => exact .inr ⟨x.toArray, unqE_some h, unqR_some h⟩
  have U1 := Lib.hid (fun w => K.unq s w (by omega))
  have U2 := Lib.hid (fun w => runq_any s w (by omega))
  have W1 := fun w => K.words s w (by omega)
  have W2 := fun w => rwords_any s w (by omega)
  generalize tokenB s.data.toList = tk at *
  generalize mayB s.data.toList = my at *
  generalize runesN s.data.toList = rn at *
  generalize quoteB s.data.toList = qt at *
  generalize unqE s.data.toList = ue at *
  generalize unqR s.data.toList = ur at *
  generalize wordsB s.data.toList = wo at *
  have HU := Lib.hid hu
  have HW1 := Lib.hid W1
  have HW2 := Lib.hid W2
  clear hu W1 W2
  have HK := Lib.hid K
  clear K
  go_enter Try.func3, Try.ntmps3
  go_wp2_with fail
  refine (awake_any HK.out _).mono ?_
  rintro e w1 ⟨rfl, hB⟩
  go_wp2_with fail
  refine (T1.out _).mono ?_
  rintro e w2 ⟨rfl, hb⟩
  replace hB := hB.trans (hb.mono hB.size)
  clear hb
  go_wp2_with fail
  refine (T2.out _).mono ?_
  rintro e w' ⟨rfl, rfl⟩
  go_wp2_with fail
  refine (M1.out _).mono ?_
  rintro e w4 ⟨rfl, hb⟩
  replace hB := hB.trans (hb.mono hB.size)
  clear hb
  go_wp2_with fail
  refine (M2.out _).mono ?_
  rintro e w' ⟨rfl, rfl⟩
  go_wp2_with fail
  refine (R1.out _).mono ?_
  rintro e w6 ⟨rfl, hb⟩
  replace hB := hB.trans (hb.mono hB.size)
  clear hb
  go_wp2_with fail
  refine (R2.out _).mono ?_
  rintro e w' ⟨rfl, rfl⟩
  go_wp2_with fail
  refine (Q1.out _).mono ?_
  rintro e w8 ⟨rfl, hb⟩
  replace hB := hB.trans (hb.mono hB.size)
  clear hb
  go_wp2_with fail
  refine (Q2.out _).mono ?_
  rintro e w9 ⟨rfl, hb⟩
  replace hB := hB.trans (hb.mono hB.size)
  clear hb
  rcases HU.out with ⟨rfl, rfl⟩ | ⟨x, rfl, rfl⟩
  all_goals
    go_wp2_with fail
    refine (U1.out _).mono ?_
    rintro e w10 ⟨rfl, hb⟩
    replace hB := hB.trans (hb.mono hB.size)
    clear hb
    go_wp2_with fail
    refine (U2.out _).mono ?_
    rintro e w11 ⟨rfl, hb⟩
    replace hB := hB.trans (hb.mono hB.size)
    clear hb
    cases wo with
    | none =>
      have V1 : Hid (∀ w, Calls Try.prog 18 #[.string s] w fun e w' => ∃ A c, e = .returned (.tuple #[.slice A 0 c, .int .i64 6]) ∧ Ts w' A 0 c [] ∧ Below w.heap.size w w') := Lib.hid HW1.out
      have V2 : Hid (∀ w, Calls Try.prog 19 #[.string s] w fun e w' => ∃ A c, e = .returned (.tuple #[.slice A 0 c, .bool false]) ∧ Texts w' w.heap.size A 0 c [] ∧ Below w.heap.size w w') := Lib.hid HW2.out
      clear HW1 HW2
      go_wp2_with fail
      refine (V1.out _).mono ?_
      rintro e w20 ⟨A1, c1, rfl, hT1, hb⟩
      replace hB := hB.trans (hb.mono hB.size)
      clear hb
      go_wp2_with fail
      refine (V2.out _).mono ?_
      rintro e w21 ⟨A2, c2, rfl, hT2, hb⟩
      have hS1 := hT1.below hb
      have hS2 := hT2.ts
      replace hB := hB.trans (hb.mono hB.size)
      have S := same_any A1 A2 _ _ c1 c2 _ _ w21 hS1 hS2
      rw [decide_eq_true rfl] at S
      have HS := Lib.hid S
      clear hb hT1 hT2 hS1 hS2 S V1 V2
      go_wp2_with fail
      refine (HS.out).mono ?_
      rintro e w22 ⟨rfl, q, rfl⟩
      go_wp2
      go_ret
      exact ⟨rfl, below_drewN hB q⟩
    | some l =>
      have V1 : Hid (∀ w, Calls Try.prog 18 #[.string s] w fun e w' => ∃ A c, e = .returned (.tuple #[.slice A l.length c, .int .i64 0]) ∧ Ts w' A l.length c l ∧ Below w.heap.size w w') := Lib.hid HW1.out
      have V2 : Hid (∀ w, Calls Try.prog 19 #[.string s] w fun e w' => ∃ A c, e = .returned (.tuple #[.slice A l.length c, .bool true]) ∧ Texts w' w.heap.size A l.length c l ∧ Below w.heap.size w w') := Lib.hid HW2.out
      clear HW1 HW2
      go_wp2_with fail
      refine (V1.out _).mono ?_
      rintro e w20 ⟨A1, c1, rfl, hT1, hb⟩
      replace hB := hB.trans (hb.mono hB.size)
      clear hb
      go_wp2_with fail
      refine (V2.out _).mono ?_
      rintro e w21 ⟨A2, c2, rfl, hT2, hb⟩
      have hS1 := hT1.below hb
      have hS2 := hT2.ts
      replace hB := hB.trans (hb.mono hB.size)
      have S := same_any A1 A2 _ _ c1 c2 _ _ w21 hS1 hS2
      rw [decide_eq_true rfl] at S
      have HS := Lib.hid S
      clear hb hT1 hT2 hS1 hS2 S V1 V2
      go_wp2_with fail
      refine (HS.out).mono ?_
      rintro e w22 ⟨rfl, q, rfl⟩
      go_wp2
      go_ret
      exact ⟨rfl, below_drewN hB q⟩

theorem textRight_all (K : TextCalls) (s : ByteArray) (w : World) (hm : s.size ≤ maxLen) :
    Calls Try.prog 3 #[.string s] w fun e w' => e = .returned (.bool true) ∧ Below w.heap.size w w' := by
  by_cases hl : 3000 < s.size
  · exact textRight_big K s w hl hm
  · exact textRight_main K s w (by omega)

end Go.Proofs.Ytcfmokhiibhfhaa

/-
  What the functions of package sign come to: Read whole, Canon; the contracts of its calls.
-/
import Derived.Test.YtnmnbiphonjlaaaSignG2
import Derived.Test.YtnmnbiphonjlaaaEqual
namespace Go.Proofs.Ytnmnbiphonjlaaa
open Go.RowKit
set_option linter.unusedVariables false
set_option linter.unusedSimpArgs false

theorem sread_none (k : Int) (hk : k < 1 ∨ 6 < k) (A : Option Addr) (n c : Nat) (s : List UInt8) (w : World) : Calls Try.prog 10 #[.int .i64 k, .slice A n c] w (Says w (.tuple #[sgV (readSg k s), .int .i64 (signE k s)])) := by
  have e1 : signE k s = 1 := if_pos hk
  have e2 : readSg k s = zeroSg := if_neg (by rw [e1]; decide)
  rw [e1, e2]
  have HF := Lib.hid (fun W => formOf_none k W hk)
  clear hk e1 e2
  go_enter Try.func10, Try.ntmps10
  go_wp2_with fail
  refine (HF.out _).mono ?_
  rintro e w' ⟨rfl, rfl⟩
  go_wp2_with fail
  exact bodyPost_ret (v := .tuple #[sgV zeroSg, .int .i64 1]) (by simp [results, Try.results10, go_sem, zeroSg, *]) rfl ⟨rfl, (by first | exact below1 _ _ | exact below2 _ _ _ | exact below3 _ _ _ _)⟩

set_option maxHeartbeats 1000000 in
theorem sread_word (k : Int) (hk : k = 1 ∨ k = 2) (A : Option Addr) (n c : Nat) (s : List UInt8) (w : World) (hs : Bs w A n c s) (hn : n ≤ 1000000) : Calls Try.prog 10 #[.int .i64 k, .slice A n c] w (Says w (.tuple #[sgV (readSg k s), .int .i64 (signE k s)])) := by
  have hl := hs.len
  have HF := Lib.hid (fun W => formOf_word k W hk)
  have HTk := Lib.hid (fun W => word_takes n W hn)
  have ma := @assert_num_word
  have m1 := @met_word_takes
  by_cases h1 : 1 ≤ n ∧ n ≤ 16
  · rw [decide_eq_true h1] at HTk
    have hE : signE k s = if tokenB s = false then 6 else 0 := by
      unfold signE
      rw [if_neg (by omega), if_neg (by
        have : lenK k s.length = s.length := by unfold lenK; rw [if_neg (by omega), if_neg (by omega), if_neg (by omega), if_neg (by omega)]
        rw [this]; omega)]
      by_cases ht : tokenB s = false
      · rw [if_pos ⟨by omega, ht⟩, if_pos ht]
      · rw [if_neg (fun h => ht h.2), if_neg ht]
    have hV : signV k s = ⟨k, ⟨s.toArray⟩, 0, false, false, 0⟩ := if_pos (by omega)
    have HT := Lib.hid (fun W => tok_any ⟨s.toArray⟩ W (by show s.toArray.size ≤ 1000000; simp; omega))
    rw [show (ByteArray.mk s.toArray).data.toList = s from rfl] at HT
    have kz := Box.new w [.int .i64 0, .string ⟨#[]⟩, .int .u32 0, .bool false, .bool false, .int .i64 0] 24
    have hB1 := below1 w (.cells #[.int .i64 0, .string ⟨#[]⟩, .int .u32 0, .bool false, .bool false, .int .i64 0] 24)
    have hs1 := hs.below hB1
    cases hy : tokenB s
    · rw [hy] at HT
      have e1 : signE k s = 6 := by rw [hE, if_pos hy]
      have e2 : readSg k s = zeroSg := if_neg (by rw [e1]; decide)
      rw [e1, e2]
      clear hE hV hy e1 e2 h1 hl hk hn
      go_enter Try.func10, Try.ntmps10
      go_wp2_with fail
      refine (HF.out _).mono ?_
      rintro e w' ⟨rfl, rfl⟩
      go_wp2_with fail
      refine (HTk.out _).mono ?_
      rintro e w2 ⟨rfl, hb2⟩
      have kz2 := kz.call hb2
      have hB2 := hB1.trans (hb2.mono hB1.size)
      have t1 := str_of (hs1.below hb2)
      have k3 := Box.new w2 [.int .i64 k, .string ⟨s.toArray⟩, .int .u32 0, .bool false, .bool false, .int .i64 0] 24
      have kz3 := kz2.alloc (.cells #[.int .i64 k, .string ⟨s.toArray⟩, .int .u32 0, .bool false, .bool false, .int .i64 0] 24)
      have hB3 := hB2.alloc hB2.size (.cells #[.int .i64 k, .string ⟨s.toArray⟩, .int .u32 0, .bool false, .bool false, .int .i64 0] 24)
      have f3 := k3.all6.1
      go_wp2_with fail
      refine (HT.out _).mono ?_
      rintro e w4 ⟨rfl, hb4⟩
      have kz4 := kz3.call hb4
      have hB4 := hB3.trans (hb4.mono hB3.size)
      have f4 := kz4.all6.1
      have g4 := kz4.free6
      clear f3 k3 t1
      go_wp2_with fail
      have k5 := kz4.put6 (.int .i64 0) (.string ⟨#[]⟩) (.int .u32 0) (.bool false) (.bool false) (.int .i64 0)
      have f5 := k5.all6.1
      have hB5 := below_put6 hB4 (Nat.le_refl _) (.int .i64 0) (.string ⟨#[]⟩) (.int .u32 0) (.bool false) (.bool false) (.int .i64 0)
      clear f4 g4 k5
      dsimp only [put6] at f5 hB5
      exact bodyPost_ret (v := .tuple #[sgV zeroSg, .int .i64 6]) (by simp [results, Try.results10, go_sem, zeroSg, f5]) rfl ⟨rfl, hB5⟩
    · rw [hy] at HT
      have e1 : signE k s = 0 := by rw [hE, if_neg (by rw [hy]; decide)]
      have e2 : readSg k s = ⟨k, ⟨s.toArray⟩, 0, false, false, 0⟩ := by unfold readSg; rw [if_pos e1, hV]
      rw [e1, e2]
      clear hE hV hy e1 e2 h1 hl hk hn
      go_enter Try.func10, Try.ntmps10
      go_wp2_with fail
      refine (HF.out _).mono ?_
      rintro e w' ⟨rfl, rfl⟩
      go_wp2_with fail
      refine (HTk.out _).mono ?_
      rintro e w2 ⟨rfl, hb2⟩
      have kz2 := kz.call hb2
      have hB2 := hB1.trans (hb2.mono hB1.size)
      have t1 := str_of (hs1.below hb2)
      have k3 := Box.new w2 [.int .i64 k, .string ⟨s.toArray⟩, .int .u32 0, .bool false, .bool false, .int .i64 0] 24
      have kz3 := kz2.alloc (.cells #[.int .i64 k, .string ⟨s.toArray⟩, .int .u32 0, .bool false, .bool false, .int .i64 0] 24)
      have hB3 := hB2.alloc hB2.size (.cells #[.int .i64 k, .string ⟨s.toArray⟩, .int .u32 0, .bool false, .bool false, .int .i64 0] 24)
      have f3 := k3.all6.1
      go_wp2_with fail
      refine (HT.out _).mono ?_
      rintro e w4 ⟨rfl, hb4⟩
      have kz4 := kz3.call hb4
      have hB4 := hB3.trans (hb4.mono hB3.size)
      have k4 := k3.call hb4
      have f4 := k4.all6.1
      have fz := kz4.all6.1
      have g4 := kz4.free6
      clear f3 k3 t1
      go_wp2_with fail
      have k5 := kz4.put6 (.int .i64 k) (.string ⟨s.toArray⟩) (.int .u32 0) (.bool false) (.bool false) (.int .i64 0)
      have f5 := k5.all6.1
      have hB5 := below_put6 hB4 (Nat.le_refl _) (.int .i64 k) (.string ⟨s.toArray⟩) (.int .u32 0) (.bool false) (.bool false) (.int .i64 0)
      clear f4 g4 k5 fz
      dsimp only [put6] at f5 hB5
      exact bodyPost_ret (v := .tuple #[sgV ⟨k, ⟨s.toArray⟩, 0, false, false, 0⟩, .int .i64 ((0 : Nat) : Int)]) (by simp [results, Try.results10, go_sem, f5]) rfl ⟨rfl, hB5⟩
  · rw [decide_eq_false h1] at HTk
    have e1 : signE k s = 4 := by
      unfold signE
      rw [if_neg (by omega), if_pos (by omega)]
    have e2 : readSg k s = zeroSg := if_neg (by rw [e1]; decide)
    rw [e1, e2]
    have hB1 := below1 w (.cells #[.int .i64 0, .string ⟨#[]⟩, .int .u32 0, .bool false, .bool false, .int .i64 0] 24)
    have kz := Box.new w [.int .i64 0, .string ⟨#[]⟩, .int .u32 0, .bool false, .bool false, .int .i64 0] 24
    clear h1 hl hk e1 e2 hn
    go_enter Try.func10, Try.ntmps10
    go_wp2_with fail
    refine (HF.out _).mono ?_
    rintro e w' ⟨rfl, rfl⟩
    go_wp2_with fail
    refine (HTk.out _).mono ?_
    rintro e w2 ⟨rfl, hb2⟩
    have kz4 := kz.call hb2
    have hB4 := hB1.trans (hb2.mono hB1.size)
    have f4 := kz4.all6.1
    have g4 := kz4.free6
    go_wp2_with fail
    have k5 := kz4.put6 (.int .i64 0) (.string ⟨#[]⟩) (.int .u32 0) (.bool false) (.bool false) (.int .i64 0)
    have f5 := k5.all6.1
    have hB5 := below_put6 hB4 (Nat.le_refl _) (.int .i64 0) (.string ⟨#[]⟩) (.int .u32 0) (.bool false) (.bool false) (.int .i64 0)
    clear f4 g4 k5
    dsimp only [put6] at f5 hB5
    exact bodyPost_ret (v := .tuple #[sgV zeroSg, .int .i64 4]) (by simp [results, Try.results10, go_sem, zeroSg, f5]) rfl ⟨rfl, hB5⟩
theorem sread_any (k : Int) (A : Option Addr) (n c : Nat) (s : List UInt8) (w : World) (hs : Bs w A n c s) (hn : n ≤ 1000000) : Calls Try.prog 10 #[.int .i64 k, .slice A n c] w (Says w (.tuple #[sgV (readSg k s), .int .i64 (signE k s)])) := by
  rcases (show k = 1 ∨ k = 2 ∨ k = 3 ∨ k = 4 ∨ k = 5 ∨ k = 6 ∨ (k < 1 ∨ 6 < k) by omega) with e | e | e | e | e | e | e
  · exact sread_word k (.inl e) A n c s w hs hn
  · exact sread_word k (.inr e) A n c s w hs hn
  · exact sread_plain 3 16777216 k (.inl ⟨e, rfl, rfl⟩) A n c s w hs
  · exact sread_level k e A n c s w hs
  · exact sread_plain 2 65536 k (.inr ⟨e, rfl, rfl⟩) A n c s w hs
  · exact sread_turn k e A n c s w hs
  · exact sread_none k e A n c s w
theorem swrite_any (p : Sg) (h : SgOk p) (w : World) : Calls Try.prog 8 #[sgV p] w (GivesSB w (writeSB p) (writeSE p)) := by
  unfold writeSB writeSE
  cases hr : rightSg p
  · rw [if_neg (by decide), if_neg (by decide)]
    exact swrite_no p h hr w
  · rw [if_pos rfl, if_pos rfl]
    rcases right_kind hr with hk | hk | hk | hk | hk
    · exact swrite_word p hk h hr w
    · exact swrite_plain 3 16777216 p (.inl ⟨hk, rfl, rfl⟩) h hr w
    · exact swrite_level p hk h hr w
    · exact swrite_plain 2 65536 p (.inr ⟨hk, rfl, rfl⟩) h hr w
    · exact swrite_turn p hk h hr w

set_option maxHeartbeats 1000000 in
theorem scanon_any (k : Int) (A : Option Addr) (n c : Nat) (s : List UInt8) (w : World) (hs : Bs w A n c s) (hn : n ≤ 1000000) (hkw : (Lit.int .i64 k).wf = true) : Calls Try.prog 13 #[.int .i64 k, .slice A n c] w (Says w (.bool (canonSg k s))) := by
  have HR := Lib.hid (sread_any k A n c s w hs hn)
  by_cases he : signE k s = 0
  · have hr := sign_right he
    have hcn : canonSg k s = decide (writeSg (readSg k s) = s) := by
      unfold canonSg
      rw [Bool.eq_iff_iff, decide_eq_true_eq, decide_eq_true_eq]
      exact ⟨fun h => h.2, fun h => ⟨he, h⟩⟩
    rw [hcn]
    rw [he] at HR
    have hok : SgOk (readSg k s) := by
      unfold SgOk
      have hrr := hr.1
      have hnum := right_num hrr
      refine ⟨?_, by omega, ?_, ?_⟩
      · rcases right_kind hrr with hk | hk | hk | hk | hk
        · have h1 := tokenB_size (right_text hrr hk).1
          have h2 := size_list (readSg k s).text
          omega
        · have := (right_3 hrr hk).1; omega
        · have := (right_4 hrr hk).1; omega
        · have := (right_5 hrr hk).1; omega
        · have := (right_6 hrr hk).1; omega
      · have := right_kind hrr
        exact WalkArith.wf_i64 (by omega)
      · refine WalkArith.wf_i64 ?_
        rcases right_kind hrr with hk | hk | hk | hk | hk
        · have := (right_text hrr hk).2.2.2.2; omega
        · have := (right_3 hrr hk).2.2.2.2; omega
        · have := (right_4 hrr hk).2.2.2; omega
        · have := (right_5 hrr hk).2.2.2.2; omega
        · have := (right_6 hrr hk).2.2; omega
    have HW := Lib.hid (fun W => swrite_any (readSg k s) hok W)
    have ew : writeSB (readSg k s) = writeSg (readSg k s) := if_pos hr.1
    rw [ew] at HW
    clear hcn he hr hok ew hkw hn
    generalize readSg k s = p at *
    generalize writeSg p = X at *
    generalize writeSE p = er at *
    obtain ⟨j, t, m, a, b, u⟩ := p
    dsimp only [sgV] at HR HW
    go_enter Try.func13, Try.ntmps13
    go_wp2_with fail
    refine (HR.out).mono ?_
    rintro x w2 ⟨rfl, hb⟩
    have hs2 := (hs.below hb).alloc (.cells #[.int .i64 j, .string t, .int .u32 (m : Int), .bool a, .bool b, .int .i64 u] 24)
    have k1 := Box.new w2 [.int .i64 j, .string t, .int .u32 (m : Int), .bool a, .bool b, .int .i64 u] 24
    have hB := hb.alloc hb.size (.cells #[.int .i64 j, .string t, .int .u32 (m : Int), .bool a, .bool b, .int .i64 u] 24)
    have f1 := k1.all6.1
    go_wp2_with fail
    refine (HW.out _).mono ?_
    rintro x w3 ⟨B3, d3, rfl, hx3, hb3⟩
    have hs3 := hs2.below hb3
    have hB3 := hB.trans (hb3.mono hB.size)
    generalize hXl : X.length = xl at *
    go_wp2_with fail
    refine (equal_any B3 xl d3 X A n c s _ hx3 hs3).mono ?_
    rintro x w4 ⟨rfl, hb4⟩
    go_wp2_with fail
    go_ret
    exact ⟨rfl, hB3.trans (hb4.mono hB3.size)⟩
  · have hcn : canonSg k s = false := by unfold canonSg; rw [decide_eq_false_iff_not]; exact fun h => he h.1
    rw [hcn]
    have hz : readSg k s = zeroSg := if_neg he
    rw [hz] at HR
    generalize signE k s = er at *
    have hne : ((er : Int) != 0) = true := by rw [bne_iff_ne]; omega
    clear hcn hz
    dsimp only [sgV, zeroSg] at HR
    go_enter Try.func13, Try.ntmps13
    go_wp2_with fail
    refine (HR.out).mono ?_
    rintro x w2 ⟨rfl, hb⟩
    go_wp2_with fail
    go_ret
    exact ⟨rfl, hb.alloc hb.size _⟩

theorem sign_calls : SignCalls where
  right := fun p w h => sright_any p h w
  write := fun p w h => swrite_any p h w
  read := fun k A n c s w hs hn hk => sread_any k A n c s w hs hn
  canon := fun k A n c s w hs hn hk => scanon_any k A n c s w hs hn hk

end Go.Proofs.Ytnmnbiphonjlaaa

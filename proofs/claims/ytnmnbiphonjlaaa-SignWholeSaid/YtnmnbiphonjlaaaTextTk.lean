/-
  Package text: whether a text is a token (leans on no builder).
-/
import Derived.Test.YtnmnbiphonjlaaaTextD
import Derived.Test.YtnmnbiphonjlaaaTextT
import Derived.Test.YtnmnbiphonjlaaaBase
import Derived.Deep.QuietTactic
import Derived.BigCall
namespace Go.Proofs.Ytnmnbiphonjlaaa
open Go.RowKit

/-- The iterator that was just made, and what is below it. -/
theorem it_start (w : World) (s : ByteArray) : (w.alloc (.stringIter s 0)).heap[w.heap.size]? = some (.stringIter s 0) := by
  show (w.heap.push _)[w.heap.size]? = _
  simp

set_option maxHeartbeats 1000000 in
theorem inToken_any (n : Nat) (b : Bool) (w : World) (hn : n ≤ 1114111) (hb : tokC n = b) :
    Calls Try.prog 27 #[.int .i32 n] w fun e w' => e = .returned (.bool b) ∧ w' = w := by
  subst hb
  unfold tokC
  by_cases ht : ((97 ≤ n ∧ n ≤ 122) ∨ (65 ≤ n ∧ n ≤ 90) ∨ (48 ≤ n ∧ n ≤ 57) ∨ n = 45 ∨ n = 95)
  · rw [decide_eq_true ht]
    rcases ht with ⟨h1, h2⟩ | ⟨h1, h2⟩ | ⟨h1, h2⟩ | h1 | h1
    all_goals
      go_enter Try.func27, Try.ntmps27
      go_wp2
      all_goals
        go_ret
        exact ⟨rfl, rfl⟩
  · rw [decide_eq_false ht]
    rcases (show n < 45 ∨ (45 < n ∧ n < 48) ∨ (57 < n ∧ n < 65) ∨ (90 < n ∧ n < 95) ∨ (95 < n ∧ n < 97) ∨ 122 < n by omega) with h1 | ⟨h1, h2⟩ | ⟨h1, h2⟩ | ⟨h1, h2⟩ | ⟨h1, h2⟩ | h1
    all_goals
      clear ht
      have g1 : ((n : Int) == 45) = false := by rw [beq_eq_false_iff_ne]; omega
      have g2 : ((n : Int) == 95) = false := by rw [beq_eq_false_iff_ne]; omega
      go_enter Try.func27, Try.ntmps27
      go_wp2
      go_ret
      exact ⟨by first | rfl | (simp <;> omega), rfl⟩

theorem tokC_dec {S : List UInt8} (hS : S ≠ []) : tokC (decL S) = tokC (bt S 0) := by
  by_cases h1 : rlen S = 1
  · rw [decL_one hS h1]
  · have hb : 128 ≤ bt S 0 := Nat.le_of_not_lt fun h => h1 ((rlen_one hS).2 h)
    have hd : 128 ≤ decL S := by
      by_cases h0 : rlen S = 0
      · rw [decL_stray hS h0]; omega
      · exact decL_high hS (by omega)
    unfold tokC
    rw [decide_eq_false (by omega), decide_eq_false (by omega)]
theorem tokC_step {S : List UInt8} (hS : S ≠ []) (h : tokC (bt S 0) = true) : step S = 1 := by
  unfold tokC at h
  rw [decide_eq_true_eq] at h
  have := (rlen_one hS).2 (by omega)
  unfold step
  rw [this]; rfl

set_option maxHeartbeats 1000000 in
theorem tok_any (s : ByteArray) (w : World) (hs : s.size ≤ 1000000) : Calls Try.prog 20 #[.string s] w (Says w (.bool (tokenB s.data.toList))) := by
  have hsl := size_list s
  by_cases h1 : 1 ≤ s.size
  · by_cases h2 : s.size ≤ 16
    · have g1 : decide ((s.size : Int) < 1) = false := by simp; omega
      have g2 : decide ((16 : Int) < (s.size : Int)) = false := by simp; omega
      go_enter Try.func20, Try.ntmps20
      go_wp2_with fail
      go_loopw [] (fun wr => ∃ pos : Nat, pos ≤ s.size ∧ wr.heap[w.heap.size]? = some (.stringIter s pos) ∧ Below w.heap.size w wr ∧ (s.data.toList.take pos).all (fun x => tokC x.toNat) = true) (fun wr => s.size - wr.iterPos w.heap.size)
      case atStart =>
        exact ⟨0, Nat.zero_le _, it_start w s, (Below.refl _ w).alloc (Nat.le_refl _) _, rfl⟩
      case round =>
        obtain ⟨pos, hps, hit, hbw, hz⟩ := hrel
        have Hz := Lib.hid hz
        clear hz
        by_cases hp : pos < s.size
        · have hnx : ∀ ty, (Instr.next (.pointer (some ⟨w.heap.size, 0, none⟩)) true ty).run Try.prog wr = _ := fun ty => Lib.run_next_any_at wr w.heap.size s pos ty hit hp
          have hd := Lib.hid (dec_step s pos hp)
          have hr := Lib.hid (dec_rune s pos)
          have hne := Lib.hid (drop_ne hp)
          rw [hr.out, hd.out] at hnx
          have hn := Lib.hid (tok_next s.data.toList pos (by omega))
          have hno := Lib.hid (tokenB_no (S := s.data.toList) (k := pos) (by omega))
          have hb0 := Lib.hid (show bt s.data.toList pos = bt (s.data.toList.drop pos) 0 by rw [bt_drop, Nat.add_zero])
          rw [hb0.out] at hn hno
          have htd := Lib.hid (tokC_dec hne.out)
          have hts := Lib.hid (tokC_step hne.out)
          have hlt := decL_lt (s.data.toList.drop pos)
          have hit2 := Lib.iterAt_heap wr w.heap.size s pos (pos + step (s.data.toList.drop pos)) hit
          have hbw2 := Lib.below_iterAt hbw (k := w.heap.size) (by omega) s (pos + step (s.data.toList.drop pos))
          generalize s.data.toList.drop pos = S at *
          by_cases hc : tokC (bt S 0) = true
          · have hst := hts.out hc
            rw [hst] at hit2 hbw2 hnx
            have hstep : Hid ((s.data.toList.take (pos + 1)).all (fun x => tokC x.toNat) = true) := Lib.hid (by rw [hn.out, Hz.out, hc]; rfl)
            have R := Lib.hid (fun w => inToken_any (decL S) true w hlt (by rw [htd.out, hc]))
            clear hn Hz hno hts htd hd hr hne hb0 hsl hst hc
            go_wp2_with (go_at_call 27; refine (R.out _).mono ?_; rintro e w' ⟨rfl, rfl⟩)
            go_roundw
            case rel => exact ⟨pos + 1, by omega, hit2, hbw2, hstep.out⟩
            case measure =>
              simp only [World.iterPos, hit2, hit]
              omega
          · rw [Bool.not_eq_true] at hc
            have hres := Lib.hid (hno.out hc)
            have R := Lib.hid (fun w => inToken_any (decL S) false w hlt (by rw [htd.out, hc]))
            clear hn Hz hno hts htd hd hr hne hb0 hsl hc
            go_wp2_with (go_at_call 27; refine (R.out _).mono ?_; rintro e w' ⟨rfl, rfl⟩)
            go_ret
            exact ⟨by rw [hres.out]; rfl, hbw2⟩
        · have hnx : ∀ ty, (Instr.next (.pointer (some ⟨w.heap.size, 0, none⟩)) true ty).run Try.prog wr = _ := fun ty => Lib.run_next_end_at wr w.heap.size s pos ty hit hp
          have hres : Hid (tokenB s.data.toList = true) := Lib.hid (by
            have := Hz.out
            rw [List.take_of_length_le (by omega)] at this
            unfold tokenB
            rw [this, hsl, decide_eq_true ⟨h1, h2⟩]; rfl)
          clear Hz hsl
          go_wp2
          go_ret
          exact ⟨by rw [hres.out]; rfl, hbw⟩
    · have hres : Hid (tokenB s.data.toList = false) := Lib.hid (by unfold tokenB; rw [hsl, decide_eq_false (by omega), Bool.and_false])
      clear hsl
      go_enter Try.func20, Try.ntmps20
      go_wp2
      go_ret
      exact ⟨by rw [hres.out]; rfl, Below.refl _ w⟩
  · have hres : Hid (tokenB s.data.toList = false) := Lib.hid (by unfold tokenB; rw [hsl, decide_eq_false (by omega), Bool.and_false])
    clear hsl
    go_enter Try.func20, Try.ntmps20
    go_wp2
    go_ret
    exact ⟨by rw [hres.out]; rfl, Below.refl _ w⟩

end Go.Proofs.Ytnmnbiphonjlaaa

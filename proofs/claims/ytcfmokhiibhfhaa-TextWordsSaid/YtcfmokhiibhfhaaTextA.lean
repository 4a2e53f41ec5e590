/-
  Package text: whether a rune is plain or of a token; Token, May, Runes.
-/
import Derived.Test.YtcfmokhiibhfhaaTextD
import Derived.Test.YtcfmokhiibhfhaaTextC
import Derived.Test.YtcfmokhiibhfhaaShelf
import Derived.Test.YtcfmokhiibhfhaaStr
import Derived.BigCall
namespace Go.Proofs.Ytcfmokhiibhfhaa
open Go.RowKit

theorem rest_list (s : ByteArray) (i : Nat) : (s.extract i s.size).data.toList = s.data.toList.drop i := by
  rw [extract_list]
  exact List.take_of_length_le (by simp)
theorem isPlain_any (S : List UInt8) (rest : ByteArray) (w : World) (hS : S ≠ []) (h : rest.data.toList = S) :
    Calls Try.prog 22 #[.int .i32 (decL S), .string rest] w fun e w' => e = .returned (.bool (!decide (isHex S))) ∧ w' = w := by
  by_cases hr : decL S = 65533
  · have hres := Lib.hid (fffd_there hS hr)
    have c1 : ((decL S : Int) == 65533) = true := by rw [beq_iff_eq]; omega
    go_enter Try.func22, Try.ntmps22
    go_wp2_with (go_at_call 32; refine (Try.strings_HasPrefix _ _ _).mono ?_; rintro e w' ⟨rfl, rfl⟩)
    go_ret
    refine ⟨?_, rfl⟩
    rw [← hres.out]; rfl
  · have hres := Lib.hid (plain_there hS hr)
    have c1 : ((decL S : Int) == 65533) = false := by rw [beq_eq_false_iff_ne]; omega
    by_cases h1 : 32 ≤ decL S
    · by_cases h2 : decL S = 127
      · have e : Hid ((!decide (isHex S)) = false) := Lib.hid (by rw [← hres.out]; simp [h2])
        have c2 : ((decL S : Int) != 127) = false := by rw [bne_eq_false_iff_eq]; omega
        clear hres
        go_enter Try.func22, Try.ntmps22
        go_wp2
        go_ret
        exact ⟨by rw [e.out]; rfl, rfl⟩
      · have e : Hid ((!decide (isHex S)) = true) := Lib.hid (by rw [← hres.out]; simp [h1, h2])
        have c2 : ((decL S : Int) != 127) = true := by rw [bne_iff_ne]; omega
        clear hres
        go_enter Try.func22, Try.ntmps22
        go_wp2
        go_ret
        exact ⟨by rw [e.out]; rfl, rfl⟩
    · have e : Hid ((!decide (isHex S)) = false) := Lib.hid (by rw [← hres.out]; simp [h1])
      clear hres
      go_enter Try.func22, Try.ntmps22
      go_wp2
      go_ret
      exact ⟨by rw [e.out]; rfl, rfl⟩

/-- The iterator that was just made, and what is below it. -/
theorem it_start (w : World) (s : ByteArray) : (w.alloc (.stringIter s 0)).heap[w.heap.size]? = some (.stringIter s 0) := by
  show (w.heap.push _)[w.heap.size]? = _
  simp
theorem mayB_hex {S : List UInt8} (hS : S ≠ []) (h : isHex S) : mayB S = false := mayB_no hS h
theorem mayB_go {S : List UInt8} (hS : S ≠ []) (h : ¬ isHex S) : mayB S = mayB (S.drop (step S)) := by
  rw [mayB_yes hS h]
  unfold step
  rw [if_neg (fun e => h (.inl e))]

set_option maxHeartbeats 1000000 in
theorem may_any (s : ByteArray) (w : World) : Calls Try.prog 10 #[.string s] w (Says w (.bool (mayB s.data.toList))) := by
  go_enter Try.func10, Try.ntmps10
  go_wp2_with fail
  go_loopw [] (fun wr => ∃ pos : Nat, wr.heap[w.heap.size]? = some (.stringIter s pos) ∧ Below w.heap.size w wr ∧ mayB (s.data.toList.drop pos) = mayB s.data.toList) (fun wr => s.size - wr.iterPos w.heap.size)
  case atStart =>
    exact ⟨0, it_start w s, (Below.refl _ w).alloc (Nat.le_refl _) _, by rw [List.drop_zero]⟩
  case round =>
    obtain ⟨pos, hit, hbw, hz⟩ := hrel
    have Hz := Lib.hid hz
    clear hz
    by_cases hp : pos < s.size
    · have hnx : ∀ ty, (Instr.next (.pointer (some ⟨w.heap.size, 0, none⟩)) true ty).run Try.prog wr = _ := fun ty => Lib.run_next_any_at wr w.heap.size s pos ty hit hp
      have hd := Lib.hid (dec_step s pos hp)
      have hr := Lib.hid (dec_rune s pos)
      have hl := Lib.hid (rest_list s pos)
      have hne := Lib.hid (drop_ne hp)
      rw [hr.out, hd.out] at hnx
      have hst := step_pos (s.data.toList.drop pos)
      have hit2 := Lib.iterAt_heap wr w.heap.size s pos (pos + step (s.data.toList.drop pos)) hit
      have hbw2 := Lib.below_iterAt hbw (k := w.heap.size) (by omega) s (pos + step (s.data.toList.drop pos))
      have hyes := Lib.hid (fun h => mayB_go (S := s.data.toList.drop pos) hne.out h)
      have hno := Lib.hid (fun h => mayB_hex (S := s.data.toList.drop pos) hne.out h)
      rw [Hz.out] at hyes hno
      rw [List.drop_drop] at hyes
      have R := Lib.hid (isPlain_any (s.data.toList.drop pos) (s.extract pos s.size))
      generalize hS : s.data.toList.drop pos = S at *
      clear hS
      by_cases hc : isHex S
      · have hres := Lib.hid (hno.out hc)
        clear hno hyes Hz
        go_wp2_with (go_at_call 22; refine (R.out _ hne.out hl.out).mono ?_; rw [decide_eq_true hc]; rintro e w' ⟨rfl, rfl⟩)
        go_ret
        exact ⟨by rw [hres.out]; rfl, hbw2⟩
      · have hres := Lib.hid (hyes.out hc)
        clear hno hyes Hz
        go_wp2_with (go_at_call 22; refine (R.out _ hne.out hl.out).mono ?_; rw [decide_eq_false hc]; rintro e w' ⟨rfl, rfl⟩)
        go_roundw
        case rel => exact ⟨pos + step S, hit2, hbw2, hres.out.symm⟩
        case measure =>
          simp only [World.iterPos, hit2, hit]
          omega
    · have hnx : ∀ ty, (Instr.next (.pointer (some ⟨w.heap.size, 0, none⟩)) true ty).run Try.prog wr = _ := fun ty => Lib.run_next_end_at wr w.heap.size s pos ty hit hp
      have hres : Hid (mayB s.data.toList = true) := Lib.hid (by rw [← Hz.out, List.drop_of_length_le (by rw [size_list]; omega)]; rfl)
      go_wp2
      go_ret
      exact ⟨by rw [hres.out]; rfl, hbw⟩


set_option maxHeartbeats 1000000 in
theorem runes_any (s : ByteArray) (w : World) (hs : s.size ≤ 1000000) : Calls Try.prog 12 #[.string s] w (Says w (.int .i64 ((runesN s.data.toList : Nat) : Int))) := by
  have hle := Lib.hid (runesN_le s.data.toList)
  rw [size_list] at hle
  go_enter Try.func12, Try.ntmps12
  go_wp2_with fail
  go_loopw [3] (fun n wr => ∃ pos k : Nat, n = .int .i64 k ∧ wr.heap[w.heap.size]? = some (.stringIter s pos) ∧ Below w.heap.size w wr ∧ k + runesN (s.data.toList.drop pos) = runesN s.data.toList ∧ k ≤ pos) (fun _ wr => s.size - wr.iterPos w.heap.size)
  case atStart =>
    exact ⟨0, 0, rfl, it_start w s, (Below.refl _ w).alloc (Nat.le_refl _) _, by rw [List.drop_zero]; omega, Nat.le_refl _⟩
  case round =>
    obtain ⟨pos, k, rfl, hit, hbw, hz, hkp⟩ := hrel
    have Hz := Lib.hid hz
    clear hz
    by_cases hp : pos < s.size
    · have hnx : ∀ ty, (Instr.next (.pointer (some ⟨w.heap.size, 0, none⟩)) true ty).run Try.prog wr = _ := fun ty => Lib.run_next_any_at wr w.heap.size s pos ty hit hp
      have hd := Lib.hid (dec_step s pos hp)
      have hne := Lib.hid (drop_ne hp)
      rw [hd.out] at hnx
      have hst := step_pos (s.data.toList.drop pos)
      have hit2 := Lib.iterAt_heap wr w.heap.size s pos (pos + step (s.data.toList.drop pos)) hit
      have hbw2 := Lib.below_iterAt hbw (k := w.heap.size) (by omega) s (pos + step (s.data.toList.drop pos))
      have hyes := Lib.hid (runesN_succ (S := s.data.toList.drop pos) hne.out)
      have hz2 := Hz.out
      rw [hyes.out, List.drop_drop] at hz2
      have Hz2 := Lib.hid hz2
      clear hz2 hyes hd hne
      generalize step (s.data.toList.drop pos) = st at *
      clear Hz
      go_wp2
      go_roundw
      case rel => exact ⟨pos + st, k + 1, by go_num, hit2, hbw2, by rw [← Hz2.out]; omega, by omega⟩
      case measure =>
        simp only [World.iterPos, hit2, hit]
        omega
    · have hnx : ∀ ty, (Instr.next (.pointer (some ⟨w.heap.size, 0, none⟩)) true ty).run Try.prog wr = _ := fun ty => Lib.run_next_end_at wr w.heap.size s pos ty hit hp
      have hres : Hid (runesN s.data.toList = k) := Lib.hid (by rw [← Hz.out, List.drop_of_length_le (by rw [size_list]; omega)]; rfl)
      go_wp2
      go_ret
      exact ⟨by rw [hres.out]; rfl, hbw⟩

set_option maxHeartbeats 1000000 in
theorem inToken_any (n : Nat) (b : Bool) (w : World) (hn : n ≤ 1114111) (hb : tokC n = b) :
    Calls Try.prog 21 #[.int .i32 n] w fun e w' => e = .returned (.bool b) ∧ w' = w := by
  subst hb
  unfold tokC
  by_cases ht : ((97 ≤ n ∧ n ≤ 122) ∨ (65 ≤ n ∧ n ≤ 90) ∨ (48 ≤ n ∧ n ≤ 57) ∨ n = 45 ∨ n = 95)
  · rw [decide_eq_true ht]
    rcases ht with ⟨h1, h2⟩ | ⟨h1, h2⟩ | ⟨h1, h2⟩ | h1 | h1
    all_goals
      go_enter Try.func21, Try.ntmps21
      go_wp2
      all_goals
        go_ret
        exact ⟨rfl, rfl⟩
  · rw [decide_eq_false ht]
    rcases (show n < 45 ∨ (45 < n ∧ n < 48) ∨ (57 < n ∧ n < 65) ∨ (90 < n ∧ n < 95) ∨ (95 < n ∧ n < 97) ∨ 122 < n by omega) with h1 | ⟨h1, h2⟩ | ⟨h1, h2⟩ | ⟨h1, h2⟩ | ⟨h1, h2⟩ | h1
    all_goals
      clear ht
      have g1 : ((n : Int) == 45) = false := by rw [beq_eq_false_iff_ne]; omega
      have g2 : ((n : Int) == 95) = false := by rw [beq_eq_false_iff_ne]; omega
      go_enter Try.func21, Try.ntmps21
      go_wp2
      go_ret
      exact ⟨by first | rfl | (simp <;> omega), rfl⟩

theorem tokC_dec {S : List UInt8} (hS : S ≠ []) : tokC (decL S) = tokC (bt S 0) := by
  by_cases h1 : rlen S = 1
  · rw [decL_one hS h1]
  · have hb : 128 ≤ bt S 0 := Nat.le_of_not_lt fun h => h1 ((rlen_one hS).2 h)
    have hd : 128 ≤ decL S := by
      by_cases h0 : rlen S = 0
      · rw [decL_stray hS h0]; omega
      · exact decL_high hS (by omega)
    unfold tokC
    rw [decide_eq_false (by omega), decide_eq_false (by omega)]
theorem tokC_step {S : List UInt8} (hS : S ≠ []) (h : tokC (bt S 0) = true) : step S = 1 := by
  unfold tokC at h
  rw [decide_eq_true_eq] at h
  have := (rlen_one hS).2 (by omega)
  unfold step
  rw [this]; rfl

set_option maxHeartbeats 1000000 in
theorem tok_any (s : ByteArray) (w : World) (hs : s.size ≤ 1000000) : Calls Try.prog 8 #[.string s] w (Says w (.bool (tokenB s.data.toList))) := by
  have hsl := size_list s
  by_cases h1 : 1 ≤ s.size
  · by_cases h2 : s.size ≤ 16
    · have g1 : decide ((s.size : Int) < 1) = false := by simp; omega
      have g2 : decide ((16 : Int) < (s.size : Int)) = false := by simp; omega
      go_enter Try.func8, Try.ntmps8
      go_wp2_with fail
      go_loopw [] (fun wr => ∃ pos : Nat, pos ≤ s.size ∧ wr.heap[w.heap.size]? = some (.stringIter s pos) ∧ Below w.heap.size w wr ∧ (s.data.toList.take pos).all (fun x => tokC x.toNat) = true) (fun wr => s.size - wr.iterPos w.heap.size)
      case atStart =>
        exact ⟨0, Nat.zero_le _, it_start w s, (Below.refl _ w).alloc (Nat.le_refl _) _, rfl⟩
      case round =>
        obtain ⟨pos, hps, hit, hbw, hz⟩ := hrel
        have Hz := Lib.hid hz
        clear hz
        by_cases hp : pos < s.size
        · have hnx : ∀ ty, (Instr.next (.pointer (some ⟨w.heap.size, 0, none⟩)) true ty).run Try.prog wr = _ := fun ty => Lib.run_next_any_at wr w.heap.size s pos ty hit hp
          have hd := Lib.hid (dec_step s pos hp)
          have hr := Lib.hid (dec_rune s pos)
          have hne := Lib.hid (drop_ne hp)
          rw [hr.out, hd.out] at hnx
          have hn := Lib.hid (tok_next s.data.toList pos (by omega))
          have hno := Lib.hid (tokenB_no (S := s.data.toList) (k := pos) (by omega))
          have hb0 := Lib.hid (show bt s.data.toList pos = bt (s.data.toList.drop pos) 0 by rw [bt_drop, Nat.add_zero])
          rw [hb0.out] at hn hno
          have htd := Lib.hid (tokC_dec hne.out)
          have hts := Lib.hid (tokC_step hne.out)
          have hlt := decL_lt (s.data.toList.drop pos)
          have hit2 := Lib.iterAt_heap wr w.heap.size s pos (pos + step (s.data.toList.drop pos)) hit
          have hbw2 := Lib.below_iterAt hbw (k := w.heap.size) (by omega) s (pos + step (s.data.toList.drop pos))
          generalize s.data.toList.drop pos = S at *
          by_cases hc : tokC (bt S 0) = true
          · have hst := hts.out hc
            rw [hst] at hit2 hbw2 hnx
            have hstep : Hid ((s.data.toList.take (pos + 1)).all (fun x => tokC x.toNat) = true) := Lib.hid (by rw [hn.out, Hz.out, hc]; rfl)
            have R := Lib.hid (fun w => inToken_any (decL S) true w hlt (by rw [htd.out, hc]))
            clear hn Hz hno hts htd hd hr hne hb0 hsl hst hc
            go_wp2_with (go_at_call 21; refine (R.out _).mono ?_; rintro e w' ⟨rfl, rfl⟩)
            go_roundw
            case rel => exact ⟨pos + 1, by omega, hit2, hbw2, hstep.out⟩
            case measure =>
              simp only [World.iterPos, hit2, hit]
              omega
          · rw [Bool.not_eq_true] at hc
            have hres := Lib.hid (hno.out hc)
            have R := Lib.hid (fun w => inToken_any (decL S) false w hlt (by rw [htd.out, hc]))
            clear hn Hz hno hts htd hd hr hne hb0 hsl hc
            go_wp2_with (go_at_call 21; refine (R.out _).mono ?_; rintro e w' ⟨rfl, rfl⟩)
            go_ret
            exact ⟨by rw [hres.out]; rfl, hbw2⟩
        · have hnx : ∀ ty, (Instr.next (.pointer (some ⟨w.heap.size, 0, none⟩)) true ty).run Try.prog wr = _ := fun ty => Lib.run_next_end_at wr w.heap.size s pos ty hit hp
          have hres : Hid (tokenB s.data.toList = true) := Lib.hid (by
            have := Hz.out
            rw [List.take_of_length_le (by omega)] at this
            unfold tokenB
            rw [this, hsl, decide_eq_true ⟨h1, h2⟩]; rfl)
          clear Hz hsl
          go_wp2
          go_ret
          exact ⟨by rw [hres.out]; rfl, hbw⟩
    · have hres : Hid (tokenB s.data.toList = false) := Lib.hid (by unfold tokenB; rw [hsl, decide_eq_false (by omega), Bool.and_false])
      clear hsl
      go_enter Try.func8, Try.ntmps8
      go_wp2
      go_ret
      exact ⟨by rw [hres.out]; rfl, Below.refl _ w⟩
  · have hres : Hid (tokenB s.data.toList = false) := Lib.hid (by unfold tokenB; rw [hsl, decide_eq_false (by omega), Bool.and_false])
    clear hsl
    go_enter Try.func8, Try.ntmps8
    go_wp2
    go_ret
    exact ⟨by rw [hres.out]; rfl, Below.refl _ w⟩

end Go.Proofs.Ytcfmokhiibhfhaa

/-
  What the document's own answers for layer 4 come to: a text quoted.
-/
import Derived.Test.YtcfmokhiibhfhaaTextR2
import Derived.Test.YtcfmokhiibhfhaaTextQ
import Derived.Test.YtcfmokhiibhfhaaStr
import Derived.WalkSpells
namespace Go.Proofs.Ytcfmokhiibhfhaa
open Go.RowKit

theorem byte_info : (Try.prog.info? 5).map (fun i => (i.zero, i.size, i.bytes)) = some (some (.int .u8 0), 1, 1) := by kernel_rfl
theorem str_of {w : World} {A : Option Addr} {n c : Nat} {s : List UInt8} (h : Bs w A n c s) : (convert 45 9 (.slice A n c)).run Try.prog w = .ok (.string ⟨s.toArray⟩) w :=
  run_string_of w _ _ _ Try.underlying45 Try.underlying5 Try.underlying9 h

theorem digit_at (v : Int) (n : Nat) (w : World) (hv : v = n) (h : n < 16) :
    Calls Try.prog 28 #[.int .u8 v] w fun e w' => e = .returned (.int .u8 ((hexC n).toNat : Int)) ∧ w = w' := by
  subst hv
  by_cases h1 : n < 10
  · have hr : ((hexC n).toNat : Int) = 48 + (n : Int) := by
      unfold hexC; rw [if_pos h1, UInt8.toNat_ofNat']; simp only [Nat.reducePow]; omega
    rw [hr]
    go_enter Try.func28, Try.ntmps28
    go_wp2
    go_ret
    exact ⟨rfl, rfl⟩
  · have hr : ((hexC n).toNat : Int) = 97 + (n : Int) - 10 := by
      unfold hexC; rw [if_neg h1, UInt8.toNat_ofNat']; simp only [Nat.reducePow]; omega
    rw [hr]
    go_enter Try.func28, Try.ntmps28
    go_wp2
    go_ret
    exact ⟨rfl, rfl⟩

/-- What is written up to a place. -/
def QuoteInv (w : World) (s : ByteArray) (e : TypeId) (x i : Value) (W : World) : Prop :=
  ∃ (k : Nat) (P : List UInt8) (A : Option Addr) (c : Nat), k ≤ s.size ∧ i = .int .i64 k ∧ x = .slice A (1 + P.length) c ∧ Below w.heap.size w W ∧ Own W w.heap.size e A (1 + P.length) c (34 :: P) ∧ P ++ bodyB (s.data.toList.drop k) = bodyB s.data.toList

set_option maxHeartbeats 2000000 in
theorem rquote_any (s : ByteArray) (w : World) (hs : s.size ≤ 1000000000) :
    Calls Try.prog 15 #[.string s] w fun e w' => e = .returned (.string ⟨(quoteB s.data.toList).toArray⟩) ∧ Below w.heap.size w w' := by
  have hs2 : s.size ≤ 140737488355328 := by omega
  have R := Lib.hid (fun k w h => rune_any s k w hs2 h)
  have hbl := bodyB_length s.data.toList
  rw [size_list] at hbl
  have Hbl := Lib.hid hbl
  clear hbl
  go_enter Try.func15, Try.ntmps15
  go_wp2_with fail
  go_loopw [3, 4] (fun x i W => QuoteInv w s 5 x i W) (fun _ i _ => s.size - (intOf i).toNat)
  case atStart => exact ⟨0, [], _, 1, Nat.zero_le _, rfl, rfl, below1 w _, own_lit w [34] _ _ _ (Nat.le_refl _) rfl (by simp [maxLen]), by rw [List.drop_zero]; rfl⟩
  case round =>
    obtain ⟨k, P, A, c, hk, rfl, rfl, hB, hown, hP⟩ := hrel
    have HP := Lib.hid hP
    have hPl : P.length ≤ 3000000000 := by
      have h1 := congrArg List.length hP
      rw [List.length_append] at h1
      have := Hbl.out
      omega
    clear hP
    by_cases hlt : k < s.size
    · have hb := bt_drop0 hlt
      have hfit := rlen_fits hlt
      have hcons := bodyB_cons (drop_ne hlt)
      rw [List.drop_drop] at hcons
      have Rk := Lib.hid (fun w => R.out k w hlt)
      have p1 := piece_esc (S := s.data.toList.drop k)
      have p2 := piece_hex (S := s.data.toList.drop k)
      have p3 := piece_plain (S := s.data.toList.drop k)
      rw [hb] at p1 p2 p3
      have hst : step (s.data.toList.drop k) = if rlen (s.data.toList.drop k) = 0 then 1 else rlen (s.data.toList.drop k) := rfl
      have hnext : (P ++ piece (s.data.toList.drop k)) ++ bodyB (s.data.toList.drop (k + step (s.data.toList.drop k))) = bodyB s.data.toList := by
        rw [List.append_assoc, ← hcons]; exact HP.out
      generalize piece (s.data.toList.drop k) = pc at *
      generalize step (s.data.toList.drop k) = st at *
      generalize rlen (s.data.toList.drop k) = r at *
      have hc := s[k].toNat_lt
      obtain ⟨sv, hsv⟩ : ∃ sv : UInt8, sv = s[k] := ⟨_, rfl⟩
      have Hn := Lib.hid hnext
      clear hcons hb HP Hbl R hnext
      by_cases he : r = 1 ∧ (s[k].toNat = 34 ∨ s[k].toNat = 92)
      · have hpe := p1 he
        subst hpe
        obtain ⟨rfl, hc2⟩ := he
        rw [if_neg (by omega)] at hst
        subst hst
        have Hn2 := Lib.hid (show (P ++ [92, UInt8.ofNat s[k].toNat]).length = P.length + 2 by simp)
        clear p1 p2 p3
        have hbs : Bs (wr.alloc (.cells #[.int .u8 92, .int .u8 (s[k].toNat : Int)] 5)) (some ⟨wr.heap.size, 0, none⟩) 2 2 [92, UInt8.ofNat s[k].toNat] := bs_lit wr [92, UInt8.ofNat s[k].toNat] _ _ (by simp [byteV]) (by simp [maxLen])
        have hBa : Below w.heap.size w (wr.alloc (.cells #[.int .u8 92, .int .u8 (s[k].toNat : Int)] 5)) := hB.alloc hB.size _
        rcases hc2 with hc2 | hc2
        all_goals
          rw [hc2] at hbs hBa Hn Hn2
          go_wp2_with fail
          refine (Rk.out _).mono ?_
          rintro e w' ⟨rfl, rfl⟩
          go_wp2_with (at_builtin; go_loud (refine wpList_app _ rfl (.tmp 37) (.tmp 39) 45 rfl w.heap.size 5 Try.underlying45 byte_info A (1 + P.length) c (34 :: P) rfl (hown.alloc _) (some ⟨wr.heap.size, 0, none⟩) 2 2 _ rfl hbs (by omega) hBa.size ?_); intro A4 c4 w4 hown4 hb4)
          go_roundw
          case rel =>
            refine ⟨k + 1, _, A4, c4, by omega, by go_num, ?_, hBa.trans hb4, ?_, Hn.out⟩
            · rw [Hn2.out]; congr 1
            · rw [Hn2.out, show 1 + (P.length + 2) = 1 + P.length + 2 by omega]; exact hown4
          case measure => simp [intOf]; omega
      · have g1 : ¬ (r = 1 ∧ s[k].toNat = 34) := fun h => he ⟨h.1, .inl h.2⟩
        have g2 : ¬ (r = 1 ∧ s[k].toNat = 92) := fun h => he ⟨h.1, .inr h.2⟩
        by_cases hh : r = 0 ∨ (r = 1 ∧ (s[k].toNat < 32 ∨ s[k].toNat = 127))
        · have hpe := p2 he hh
          subst hpe
          have hst1 : st = 1 := by rw [hst]; rcases hh with h | ⟨h, _⟩ <;> rw [h] <;> rfl
          subst hst1
          have Hn2 := Lib.hid (show (P ++ [92, hexC (s[k].toNat / 16), hexC (s[k].toNat % 16)]).length = P.length + 3 by simp)
          clear p1 p2 p3 hst
          rcases hh with rfl | ⟨rfl, h1 | h1⟩
          · clear he g1 g2
            have D1 := Lib.hid (fun w => digit_at ((s[k].toNat : Int) / 16) (s[k].toNat / 16) w (by omega) (by omega))
            have D2 := Lib.hid (fun w => digit_at ((s[k].toNat : Int) % 16) (s[k].toNat % 16) w (by omega) (by omega))
            have hm2 : Int.tmod (s[k].toNat : Int) 16 = (s[k].toNat : Int) % 16 := Int.tmod_eq_emod_of_nonneg (by omega)
            have hbs : Bs (wr.alloc (.cells #[.int .u8 92, .int .u8 ((hexC (s[k].toNat / 16)).toNat : Int), .int .u8 ((hexC (s[k].toNat % 16)).toNat : Int)] 5)) (some ⟨wr.heap.size, 0, none⟩) 3 3 [92, hexC (s[k].toNat / 16), hexC (s[k].toNat % 16)] := bs_lit wr [92, hexC (s[k].toNat / 16), hexC (s[k].toNat % 16)] _ _ rfl (by simp [maxLen])
            have hBa : Below w.heap.size w (wr.alloc (.cells #[.int .u8 92, .int .u8 ((hexC (s[k].toNat / 16)).toNat : Int), .int .u8 ((hexC (s[k].toNat % 16)).toNat : Int)] 5)) := hB.alloc hB.size _
            generalize hexC (s[k].toNat / 16) = d1 at *
            generalize hexC (s[k].toNat % 16) = d2 at *
            go_wp2_with fail
            refine (Rk.out _).mono ?_
            rintro e w' ⟨rfl, rfl⟩
            go_wp2_with fail
            refine (D1.out _).mono ?_
            rintro e w' ⟨rfl, rfl⟩
            go_wp2_with fail
            refine (D2.out _).mono ?_
            rintro e w' ⟨rfl, rfl⟩
            go_wp2_with (at_builtin; go_loud (refine wpList_app _ rfl (.tmp 56) (.tmp 63) 45 rfl w.heap.size 5 Try.underlying45 byte_info A (1 + P.length) c (34 :: P) rfl (hown.alloc _) (some ⟨wr.heap.size, 0, none⟩) 3 3 _ rfl hbs (by omega) hBa.size ?_); intro A4 c4 w4 hown4 hb4)
            go_roundw
            case rel =>
              refine ⟨k + 1, _, A4, c4, by omega, by go_num, ?_, hBa.trans hb4, ?_, Hn.out⟩
              · rw [Hn2.out]; congr 1
              · rw [Hn2.out, show 1 + (P.length + 3) = 1 + P.length + 3 by omega]; exact hown4
            case measure => simp [intOf]; omega
          · have e1 : ((s[k].toNat : Int) == 34) = false := by rw [beq_eq_false_iff_ne]; omega
            have e2 : ((s[k].toNat : Int) == 92) = false := by rw [beq_eq_false_iff_ne]; omega
            clear he g1 g2
            have D1 := Lib.hid (fun w => digit_at ((s[k].toNat : Int) / 16) (s[k].toNat / 16) w (by omega) (by omega))
            have D2 := Lib.hid (fun w => digit_at ((s[k].toNat : Int) % 16) (s[k].toNat % 16) w (by omega) (by omega))
            have hm2 : Int.tmod (s[k].toNat : Int) 16 = (s[k].toNat : Int) % 16 := Int.tmod_eq_emod_of_nonneg (by omega)
            have hbs : Bs (wr.alloc (.cells #[.int .u8 92, .int .u8 ((hexC (s[k].toNat / 16)).toNat : Int), .int .u8 ((hexC (s[k].toNat % 16)).toNat : Int)] 5)) (some ⟨wr.heap.size, 0, none⟩) 3 3 [92, hexC (s[k].toNat / 16), hexC (s[k].toNat % 16)] := bs_lit wr [92, hexC (s[k].toNat / 16), hexC (s[k].toNat % 16)] _ _ rfl (by simp [maxLen])
            have hBa : Below w.heap.size w (wr.alloc (.cells #[.int .u8 92, .int .u8 ((hexC (s[k].toNat / 16)).toNat : Int), .int .u8 ((hexC (s[k].toNat % 16)).toNat : Int)] 5)) := hB.alloc hB.size _
            generalize hexC (s[k].toNat / 16) = d1 at *
            generalize hexC (s[k].toNat % 16) = d2 at *
            go_wp2_with fail
            refine (Rk.out _).mono ?_
            rintro e w' ⟨rfl, rfl⟩
            go_wp2_with fail
            refine (D1.out _).mono ?_
            rintro e w' ⟨rfl, rfl⟩
            go_wp2_with fail
            refine (D2.out _).mono ?_
            rintro e w' ⟨rfl, rfl⟩
            go_wp2_with (at_builtin; go_loud (refine wpList_app _ rfl (.tmp 56) (.tmp 63) 45 rfl w.heap.size 5 Try.underlying45 byte_info A (1 + P.length) c (34 :: P) rfl (hown.alloc _) (some ⟨wr.heap.size, 0, none⟩) 3 3 _ rfl hbs (by omega) hBa.size ?_); intro A4 c4 w4 hown4 hb4)
            go_roundw
            case rel =>
              refine ⟨k + 1, _, A4, c4, by omega, by go_num, ?_, hBa.trans hb4, ?_, Hn.out⟩
              · rw [Hn2.out]; congr 1
              · rw [Hn2.out, show 1 + (P.length + 3) = 1 + P.length + 3 by omega]; exact hown4
            case measure => simp [intOf]; omega
          · clear he g1 g2
            rw [show s[k].toNat / 16 = 7 by omega, show s[k].toNat % 16 = 15 by omega] at Hn Hn2
            have D1 := Lib.hid (fun w => digit_at 7 7 w rfl (by omega))
            have D2 := Lib.hid (fun w => digit_at 15 15 w rfl (by omega))
            have hbs : Bs (wr.alloc (.cells #[.int .u8 92, .int .u8 ((hexC (7)).toNat : Int), .int .u8 ((hexC (15)).toNat : Int)] 5)) (some ⟨wr.heap.size, 0, none⟩) 3 3 [92, hexC (7), hexC (15)] := bs_lit wr [92, hexC (7), hexC (15)] _ _ rfl (by simp [maxLen])
            have hBa : Below w.heap.size w (wr.alloc (.cells #[.int .u8 92, .int .u8 ((hexC (7)).toNat : Int), .int .u8 ((hexC (15)).toNat : Int)] 5)) := hB.alloc hB.size _
            generalize hexC (7) = d1 at *
            generalize hexC (15) = d2 at *
            go_wp2_with fail
            refine (Rk.out _).mono ?_
            rintro e w' ⟨rfl, rfl⟩
            go_wp2_with fail
            refine (D1.out _).mono ?_
            rintro e w' ⟨rfl, rfl⟩
            go_wp2_with fail
            refine (D2.out _).mono ?_
            rintro e w' ⟨rfl, rfl⟩
            go_wp2_with (at_builtin; go_loud (refine wpList_app _ rfl (.tmp 56) (.tmp 63) 45 rfl w.heap.size 5 Try.underlying45 byte_info A (1 + P.length) c (34 :: P) rfl (hown.alloc _) (some ⟨wr.heap.size, 0, none⟩) 3 3 _ rfl hbs (by omega) hBa.size ?_); intro A4 c4 w4 hown4 hb4)
            go_roundw
            case rel =>
              refine ⟨k + 1, _, A4, c4, by omega, by go_num, ?_, hBa.trans hb4, ?_, Hn.out⟩
              · rw [Hn2.out]; congr 1
              · rw [Hn2.out, show 1 + (P.length + 3) = 1 + P.length + 3 by omega]; exact hown4
            case measure => simp [intOf]; omega
        · have hpe := p3 he hh
          subst hpe
          have h0 : ¬ r = 0 := fun h => hh (.inl h)
          rw [if_neg h0] at hst
          rw [hst] at Hn
          clear hst
          have hTl : ((s.data.toList.drop k).take r).length = r := by rw [List.length_take, List.length_drop, size_list]; omega
          have hex : (s.extract k (k + r)).data.toList = (s.data.toList.drop k).take r := by rw [extract_list, Nat.add_sub_cancel_left]
          have hez : (s.extract k (k + r)).size = r := by rw [extract_size s hfit, Nat.add_sub_cancel_left]
          have Hn2 := Lib.hid (show (P ++ (s.data.toList.drop k).take r).length = P.length + r by rw [List.length_append, hTl])
          have Hex := Lib.hid hex
          clear p1 p2 p3 hTl hex
          by_cases h1 : r = 1
          · subst h1
            have e1 : ((s[k].toNat : Int) == 34) = false := by rw [beq_eq_false_iff_ne]; omega
            have e2 : ((s[k].toNat : Int) == 92) = false := by rw [beq_eq_false_iff_ne]; omega
            have e3 : ((s[k].toNat : Int) == 127) = false := by rw [beq_eq_false_iff_ne]; omega
            have e4 : ¬ s[k].toNat < 32 := fun h => hh (.inr ⟨rfl, .inl h⟩)
            clear he hh g1 g2 h0
            go_wp2_with fail
            refine (Rk.out _).mono ?_
            rintro e w' ⟨rfl, rfl⟩
            go_wp2_with (at_builtin; go_loud (refine wpList_appS _ rfl (.tmp 18) (.tmp 24) 45 9 rfl w.heap.size 5 Try.underlying45 Try.underlying9 byte_info A (1 + P.length) c (34 :: P) rfl hown (s.extract k (k + 1)) rfl (by rw [hez]; omega) hB.size ?_); intro A4 c4 w4 hown4 hb4; rw [hez] at hown4 ⊢; rw [Hex.out] at hown4)
            go_roundw
            case rel =>
              refine ⟨k + 1, _, A4, c4, by omega, by go_num, ?_, hB.trans hb4, ?_, Hn.out⟩
              · rw [Hn2.out]; congr 1
              · rw [Hn2.out, show 1 + (P.length + 1) = 1 + P.length + 1 by omega]; exact hown4
            case measure => simp [intOf]; omega
          · clear he hh g1 g2
            go_wp2_with fail
            refine (Rk.out _).mono ?_
            rintro e w' ⟨rfl, rfl⟩
            go_wp2_with (at_builtin; go_loud (refine wpList_appS _ rfl (.tmp 18) (.tmp 24) 45 9 rfl w.heap.size 5 Try.underlying45 Try.underlying9 byte_info A (1 + P.length) c (34 :: P) rfl hown (s.extract k (k + r)) rfl (by rw [hez]; omega) hB.size ?_); intro A4 c4 w4 hown4 hb4; rw [hez] at hown4 ⊢; rw [Hex.out] at hown4)
            go_roundw
            case rel =>
              refine ⟨k + r, _, A4, c4, by omega, by go_num, ?_, hB.trans hb4, ?_, Hn.out⟩
              · rw [Hn2.out]; congr 1; omega
              · rw [Hn2.out, show 1 + (P.length + r) = 1 + P.length + r by omega]; exact hown4
            case measure => simp [intOf]; omega
    · have hres : Hid (34 :: P ++ [34] = quoteB s.data.toList) := Lib.hid (by
        have := HP.out
        rw [List.drop_of_length_le (by rw [size_list]; omega), bodyB_nil, List.append_nil] at this
        rw [this]; rfl)
      clear HP Hbl R
      have hbs : Bs (wr.alloc (.cells #[.int .u8 34] 5)) (some ⟨wr.heap.size, 0, none⟩) 1 1 [34] := bs_lit wr [34] _ _ rfl (by simp [maxLen])
      have hBa : Below w.heap.size w (wr.alloc (.cells #[.int .u8 34] 5)) := hB.alloc hB.size _
      go_wp2_with (at_builtin; go_loud (refine wpList_app _ rfl (.tmp 68) (.tmp 69) 45 rfl w.heap.size 5 Try.underlying45 byte_info A (1 + P.length) c (34 :: P) rfl (hown.alloc _) (some ⟨wr.heap.size, 0, none⟩) 1 1 [34] rfl hbs (by omega) hBa.size ?_); intro A4 c4 w4 hown4 hb4; have hstr := str_of hown4.bs; rw [hres.out] at hstr)
      go_ret
      exact ⟨rfl, hBa.trans hb4⟩

end Go.Proofs.Ytcfmokhiibhfhaa

/-
  Package text: Words.
-/
import Derived.Test.YtcfmokhiibhfhaaTextB
import Derived.WalkSmall
namespace Go.Proofs.Ytcfmokhiibhfhaa
open Go.RowKit

/-- Where a text is gone through, behind a rune. -/
def beh (st r : Nat) : Nat := if st = 2 then 1 else if st = 1 then (if r = 92 then 2 else if r = 34 then 0 else 1) else (if r = 34 then 1 else 0)
theorem beh_le (st r : Nat) : beh st r ≤ 2 := by
  unfold beh
  repeat' split
  all_goals omega
theorem behind_any (st r x : Nat) (w : World) (hst : st ≤ 2) (hx : beh st r = x) :
    Calls Try.prog 31 #[.int .i64 st, .int .i32 r] w fun e w' => e = .returned (.int .i64 x) ∧ w' = w := by
  subst hx
  rcases (show st = 2 ∨ st = 1 ∨ st = 0 by omega) with rfl | rfl | rfl
  · go_enter Try.func31, Try.ntmps31
    go_wp2
    go_ret
    exact ⟨rfl, rfl⟩
  · by_cases h1 : r = 92
    · subst h1
      go_enter Try.func31, Try.ntmps31
      go_wp2
      go_ret
      exact ⟨rfl, rfl⟩
    · have c1 : ((r : Int) == 92) = false := by rw [beq_eq_false_iff_ne]; omega
      by_cases h2 : r = 34
      · subst h2
        go_enter Try.func31, Try.ntmps31
        go_wp2
        go_ret
        exact ⟨rfl, rfl⟩
      · have c2 : ((r : Int) == 34) = false := by rw [beq_eq_false_iff_ne]; omega
        have hres : Hid (beh 1 r = 1) := Lib.hid (by unfold beh; rw [if_neg (by omega), if_pos rfl, if_neg h1, if_neg h2])
        clear h1 h2
        go_enter Try.func31, Try.ntmps31
        go_wp2
        go_ret
        exact ⟨by rw [hres.out]; rfl, rfl⟩
  · by_cases h2 : r = 34
    · subst h2
      go_enter Try.func31, Try.ntmps31
      go_wp2
      go_ret
      exact ⟨rfl, rfl⟩
    · have c2 : ((r : Int) == 34) = false := by rw [beq_eq_false_iff_ne]; omega
      have hres : Hid (beh 0 r = 0) := Lib.hid (by unfold beh; rw [if_neg (by omega), if_neg (by omega), if_neg h2])
      clear h2
      go_enter Try.func31, Try.ntmps31
      go_wp2
      go_ret
      exact ⟨by rw [hres.out]; rfl, rfl⟩

theorem dec_ascii {S : List UInt8} (hS : S ≠ []) {n : Nat} (hn : n < 128) : decL S = n ↔ bt S 0 = n := by
  by_cases h1 : rlen S = 1
  · rw [decL_one hS h1]
  · have hb : 128 ≤ bt S 0 := Nat.le_of_not_lt fun h => h1 ((rlen_one hS).2 h)
    have hd : 128 ≤ decL S := by
      by_cases h0 : rlen S = 0
      · rw [decL_stray hS h0]; omega
      · exact decL_high hS (by omega)
    omega
def wordsS (S : List UInt8) (st : Nat) (w : List UInt8) (o : List (List UInt8)) : Option (List (List UInt8)) := wordsG S (decide (1 ≤ st)) (decide (st = 2)) w o
theorem wordsS_go {S : List UInt8} (hS : S ≠ []) {st : Nat} (hst : st ≤ 2) (h : ¬ (decL S = 32 ∧ st = 0)) (w : List UInt8) (o : List (List UInt8)) :
    wordsS S st w o = wordsS (S.drop (step S)) (beh st (decL S)) (w ++ S.take (step S)) o := by
  have a34 := dec_ascii hS (n := 34) (by omega)
  have a92 := dec_ascii hS (n := 92) (by omega)
  have a32 := dec_ascii hS (n := 32) (by omega)
  unfold wordsS
  rw [wordsG_cons hS]
  rcases (show st = 2 ∨ st = 1 ∨ st = 0 by omega) with rfl | rfl | rfl
  · simp [beh]
  · by_cases h1 : decL S = 92
    · simp [beh, h1, a92.1 h1]
    · have h1' : ¬ bt S 0 = 92 := fun e => h1 (a92.2 e)
      by_cases h2 : decL S = 34
      · simp [beh, h2, a34.1 h2]
      · have h2' : ¬ bt S 0 = 34 := fun e => h2 (a34.2 e)
        simp [beh, h1, h2, h1', h2']
  · have h3 : ¬ bt S 0 = 32 := fun e => h ⟨a32.2 e, rfl⟩
    by_cases h2 : decL S = 34
    · simp [beh, h2, a34.1 h2]
    · have h2' : ¬ bt S 0 = 34 := fun e => h2 (a34.2 e)
      simp [beh, h2, h2', h3]
theorem wordsS_blank {S : List UInt8} (hS : S ≠ []) (h : decL S = 32) (w : List UInt8) (o : List (List UInt8)) :
    wordsS S 0 w o = if w = [] then none else wordsS (S.drop (step S)) 0 [] (o ++ [w]) := by
  have a32 := (dec_ascii hS (n := 32) (by omega)).1 h
  unfold wordsS
  rw [wordsG_cons hS]
  simp [a32]
theorem blank_step {S : List UInt8} (hS : S ≠ []) (h : decL S = 32) : step S = 1 := by
  have a32 := (dec_ascii hS (n := 32) (by omega)).1 h
  have := (rlen_one hS).2 (by omega)
  unfold step
  rw [this]; rfl
theorem wordsS_end (st : Nat) (w : List UInt8) (o : List (List UInt8)) : wordsS [] st w o = if 1 ≤ st ∨ w = [] then none else some (o ++ [w]) := by
  unfold wordsS
  rw [wordsG_nil]
  unfold wordsEnd
  simp
theorem cut_more (s : ByteArray) {b p : Nat} (h : b ≤ p) (n : Nat) : (s.data.toList.drop b).take (p - b) ++ (s.data.toList.drop p).take n = (s.data.toList.drop b).take (p + n - b) := by
  rw [show p + n - b = (p - b) + n by omega, List.take_add, List.drop_drop, show b + (p - b) = p by omega]

def WordsI (w : World) (s : ByteArray) (x vb vs : Value) (W : World) : Prop :=
  ∃ (pos b st : Nat) (l : List (List UInt8)) (A : Option Addr) (c : Nat), b ≤ pos ∧ pos ≤ s.size ∧ st ≤ 2 ∧ x = .slice A l.length c ∧ vb = .int .i64 b ∧ vs = .int .i64 st ∧ l.length ≤ pos ∧ W.heap[w.heap.size]? = some (.stringIter s pos) ∧ Below w.heap.size w W ∧ Texts W (w.heap.size + 1) A l.length c l ∧ wordsS (s.data.toList.drop pos) st ((s.data.toList.drop b).take (pos - b)) l = wordsB s.data.toList

set_option maxRecDepth 100000 in
set_option maxHeartbeats 2000000 in
theorem words_any (s : ByteArray) (w : World) (hs : s.size ≤ 1000000) : Calls Try.prog 18 #[.string s] w (GivesWE w (wordsB s.data.toList)) := by
  have hsl := size_list s
  obtain ⟨i0, hi0', hz0', hz1', hz2'⟩ := info_parts info_str
  have Hi := Lib.hid (And.intro hi0' (And.intro hz0' (And.intro hz1' hz2')))
  clear hi0' hz0' hz1' hz2'
  go_enter Try.func18, Try.ntmps18
  go_wp2_with fail
  go_loopw [4, 5, 6] (fun x vb vs W => WordsI w s x vb vs W) (fun _ _ _ wr => s.size - wr.iterPos w.heap.size)
  case atStart => exact ⟨0, 0, 0, [], none, 0, Nat.le_refl _, Nat.zero_le _, Nat.zero_le _, rfl, rfl, rfl, Nat.le_refl _, it_start w s, (Below.refl _ w).alloc (Nat.le_refl _) _, World.ownsRow_nil _ _ _ _, by rw [List.drop_zero]; rfl⟩
  case round =>
    obtain ⟨pos, b, st, l, A, c, hbp, hps, hst, rfl, rfl, rfl, hlp, hit, hbw, hT, hz⟩ := hrel
    have Hz := Lib.hid hz
    clear hz
    have hsz : w.heap.size < wr.heap.size := (Array.getElem?_eq_some_iff.1 hit).1
    by_cases hp : pos < s.size
    · have hnx : ∀ ty, (Instr.next (.pointer (some ⟨w.heap.size, 0, none⟩)) true ty).run Try.prog wr = _ := fun ty => Lib.run_next_any_at wr w.heap.size s pos ty hit hp
      have hd := Lib.hid (dec_step s pos hp)
      have hr := Lib.hid (dec_rune s pos)
      have hne := Lib.hid (drop_ne hp)
      rw [hr.out, hd.out] at hnx
      have hst1 := step_pos (s.data.toList.drop pos)
      have hsl2 : pos + step (s.data.toList.drop pos) ≤ s.size := by have := step_le (drop_ne hp); rw [List.length_drop, hsl] at this; omega
      have hit2 := Lib.iterAt_heap wr w.heap.size s pos (pos + step (s.data.toList.drop pos)) hit
      have hbw2 := Lib.below_iterAt hbw (k := w.heap.size) (by omega) s (pos + step (s.data.toList.drop pos))
      have hsz2 : (wr.iterAt w.heap.size s (pos + step (s.data.toList.drop pos))).heap.size = wr.heap.size := Lib.iterAt_size _ _ _ _
      have hT2 : Texts (wr.iterAt w.heap.size s (pos + step (s.data.toList.drop pos))) (w.heap.size + 1) A l.length c l := ownsRow_iterAt hT (by omega) _ _
      have hgo := Lib.hid (fun h => wordsS_go (S := s.data.toList.drop pos) hne.out hst h ((s.data.toList.drop b).take (pos - b)) l)
      have hblank := Lib.hid (fun h => wordsS_blank (S := s.data.toList.drop pos) hne.out h ((s.data.toList.drop b).take (pos - b)) l)
      have hbs := Lib.hid (fun h => blank_step (S := s.data.toList.drop pos) hne.out h)
      have hcm := Lib.hid (cut_more s hbp (step (s.data.toList.drop pos)))
      rw [Hz.out, List.drop_drop, hcm.out] at hgo
      have hbh := beh_le st (decL (s.data.toList.drop pos))
      have R := Lib.hid (fun w => behind_any st (decL (s.data.toList.drop pos)) _ w hst rfl)
      by_cases hc : decL (s.data.toList.drop pos) = 32 ∧ st = 0
      · have hres := Lib.hid (hblank.out hc.1)
        have hs1 := hbs.out hc.1
        obtain ⟨hc1, rfl⟩ := hc
        have hz2 := hres.out
        rw [Hz.out, List.drop_drop] at hz2
        clear hres hbs hgo hblank hcm R hd hr hne Hz hbh
        rw [hc1] at hnx
        rw [hs1] at hnx hst1 hsl2 hit2 hbw2 hsz2 hT2 hz2
        by_cases hbe : pos = b
        · subst hbe
          have hres : Hid (wordsB s.data.toList = none) := Lib.hid (by rw [hz2, if_pos (by rw [Nat.sub_self]; rfl)])
          clear hz2 hc1 hs1
          go_wp2_with fail
          go_ret2
          rw [hres.out]
          exact ⟨none, 0, rfl, Sl.nil _, hbw2⟩
        · have hw : (s.data.toList.drop b).take (pos - b) ≠ [] := fun e => by
            have := congrArg List.length e
            rw [List.length_take, List.length_drop, hsl, List.length_nil] at this
            omega
          rw [if_neg hw] at hz2
          have hx : (s.extract b pos).data.toList = (s.data.toList.drop b).take (pos - b) := extract_list s b pos
          rw [← hx] at hz2
          have Hz2 := Lib.hid hz2
          have hzz : Hid ((s.data.toList.drop (pos + 1)).take (pos + 1 - (pos + 1)) = []) := Lib.hid (by rw [Nat.sub_self]; rfl)
          have c1 : ((pos : Int) == (b : Int)) = false := by rw [beq_eq_false_iff_ne]; omega
          clear hz2 hx hw hc1 hs1
          obtain ⟨hi0, hz0, hz1, hz2⟩ := Hi.out
          have hnews := cell_one_new (wr.iterAt w.heap.size s (pos + 1)) (.string (s.extract b pos)) 9
          rw [hsz2] at hnews
          have hge := row_lt hT2
          go_wp2_with (at_builtin; go_loud (refine wpList_append_own_at _ rfl (.tmp 27) (.tmp 32) 31 rfl (w.heap.size + 1) 9 i0 (.string ⟨#[]⟩) 1 16 Try.underlying31 hi0 hz0 hz1 hz2 rfl (by omega) (.slice A l.length c) l.length (l.map textV) rfl (World.ownsRow.alloc hT2 _) ⟨wr.heap.size, 0, none⟩ 1 1 [.string (s.extract b pos)] rfl rfl hnews (by simp [Value.oneCell']) (by simp only [maxLen]; omega) (by omega) (by simp; omega) ?_); intro v' w6 hown6 hgrow _ hat)
          obtain ⟨A6, c6, rfl⟩ := row_form hown6
          rw [ownBlock_slice] at hgrow
          have hB6 := (hbw2.alloc (by omega) _).grown hgrow (by simp; omega) (fun k hk => Nat.le_of_succ_le (hge k hk))
          have hit6 : w6.heap[w.heap.size]? = some (.stringIter s (pos + 1)) := by
            rw [hgrow.block w.heap.size (by simp; omega) (fun e => by have := hge _ e.symm; omega)]
            exact (Lib.alloc_old _ _ _ (by omega)).trans hit2
          have hT6 : Texts w6 (w.heap.size + 1) A6 (l ++ [(s.extract b pos).data.toList]).length c6 (l ++ [(s.extract b pos).data.toList]) := by
            unfold Texts
            rw [List.map_append, List.map_singleton, textV_of, List.length_append, List.length_singleton]
            exact hown6
          go_wp2_with fail
          go_roundw
          case rel => exact ⟨pos + 1, pos + 1, 0, l ++ [(s.extract b pos).data.toList], A6, c6, Nat.le_refl _, hsl2, by omega, by simp, by go_num, rfl, by simp; omega, hit6, hB6, hT6, by rw [hzz.out]; exact Hz2.out.symm⟩
          case measure =>
            simp only [World.iterPos, hit6, hit]
            omega
      · have hres := Lib.hid (hgo.out hc)
        clear hgo hblank hbs hcm hd hr hne Hz
        generalize hrr : decL (s.data.toList.drop pos) = r at *
        generalize hss : step (s.data.toList.drop pos) = sp at *
        generalize hbb : beh st r = st' at *
        clear hrr hss hbb
        by_cases h32 : r = 32
        · subst h32
          have c1 : ((st : Int) != 0) = true := by rw [bne_iff_ne]; omega
          clear hc
          go_wp2_with fail
          refine (R.out _).mono ?_
          rintro e w' ⟨rfl, rfl⟩
          go_wp2_with fail
          go_roundw
          case rel => exact ⟨pos + sp, b, st', l, A, c, by omega, hsl2, hbh, rfl, rfl, rfl, by omega, hit2, hbw2, hT2, hres.out.symm⟩
          case measure =>
            simp only [World.iterPos, hit2, hit]
            omega
        · have c1 : ((r : Int) != 32) = true := by rw [bne_iff_ne]; omega
          clear hc
          go_wp2_with fail
          refine (R.out _).mono ?_
          rintro e w' ⟨rfl, rfl⟩
          go_wp2_with fail
          go_roundw
          case rel => exact ⟨pos + sp, b, st', l, A, c, by omega, hsl2, hbh, rfl, rfl, rfl, by omega, hit2, hbw2, hT2, hres.out.symm⟩
          case measure =>
            simp only [World.iterPos, hit2, hit]
            omega
    · have hnx : ∀ ty, (Instr.next (.pointer (some ⟨w.heap.size, 0, none⟩)) true ty).run Try.prog wr = _ := fun ty => Lib.run_next_end_at wr w.heap.size s pos ty hit hp
      have hpe : pos = s.size := by omega
      subst hpe
      have hz2 := Hz.out
      rw [List.drop_of_length_le (by omega), wordsS_end] at hz2
      have hx : (s.extract b s.size).data.toList = (s.data.toList.drop b).take (s.size - b) := extract_list s b s.size
      by_cases h1 : 1 ≤ st
      · have hres : Hid (wordsB s.data.toList = none) := Lib.hid (by rw [← hz2, if_pos (.inl h1)])
        have c1 : ((st : Int) != 0) = true := by rw [bne_iff_ne]; omega
        clear hz2 hx Hz
        go_wp2_with fail
        go_ret2
        rw [hres.out]
        exact ⟨none, 0, rfl, Sl.nil _, hbw⟩
      · obtain rfl : st = 0 := by omega
        by_cases hbe : b = s.size
        · have hres : Hid (wordsB s.data.toList = none) := Lib.hid (by rw [← hz2, if_pos (.inr (by rw [hbe, Nat.sub_self]; rfl))])
          have c1 : ((b : Int) == (s.size : Int)) = true := by rw [beq_iff_eq]; omega
          clear hz2 hx Hz
          go_wp2_with fail
          go_ret2
          rw [hres.out]
          exact ⟨none, 0, rfl, Sl.nil _, hbw⟩
        · have hw : (s.data.toList.drop b).take (s.size - b) ≠ [] := fun e => by
            have := congrArg List.length e
            rw [List.length_take, List.length_drop, hsl, List.length_nil] at this
            omega
          have hres : Hid (wordsB s.data.toList = some (l ++ [(s.extract b s.size).data.toList])) := Lib.hid (by rw [← hz2, if_neg (fun h => h.elim h1 hw), hx])
          have c1 : ((b : Int) == (s.size : Int)) = false := by rw [beq_eq_false_iff_ne]; omega
          clear hz2 hx hw Hz
          obtain ⟨hi0, hz0, hz1, hz2⟩ := Hi.out
          have hnews := cell_one_new wr (.string (s.extract b s.size)) 9
          have hge := row_lt hT
          go_wp2_with (at_builtin; go_loud (refine wpList_append_own_at _ rfl (.tmp 44) (.tmp 48) 31 rfl (w.heap.size + 1) 9 i0 (.string ⟨#[]⟩) 1 16 Try.underlying31 hi0 hz0 hz1 hz2 rfl (by omega) (.slice A l.length c) l.length (l.map textV) rfl (World.ownsRow.alloc hT _) ⟨wr.heap.size, 0, none⟩ 1 1 [.string (s.extract b s.size)] rfl rfl hnews (by simp [Value.oneCell']) (by simp only [maxLen]; omega) (by omega) (by simp; omega) ?_); intro v' w6 hown6 hgrow _ hat)
          obtain ⟨A6, c6, rfl⟩ := row_form hown6
          rw [ownBlock_slice] at hgrow
          have hB6 := (hbw.alloc (by omega) _).grown hgrow (by simp; omega) (fun k hk => Nat.le_of_succ_le (hge k hk))
          have hT6 : Texts w6 (w.heap.size + 1) A6 (l ++ [(s.extract b s.size).data.toList]).length c6 (l ++ [(s.extract b s.size).data.toList]) := by
            unfold Texts
            rw [List.map_append, List.map_singleton, textV_of, List.length_append, List.length_singleton]
            exact hown6
          go_ret2
          rw [hres.out]
          exact ⟨A6, c6, by simp, hT6.ts, hB6⟩

end Go.Proofs.Ytcfmokhiibhfhaa

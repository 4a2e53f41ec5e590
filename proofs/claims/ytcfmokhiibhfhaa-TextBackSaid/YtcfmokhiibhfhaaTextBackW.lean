/-
  The walk of the statement TextBack, by the contracts of package text's calls.
-/
import Derived.Test.YtcfmokhiibhfhaaTextK
import Derived.Deep.DeepCutAuto
namespace Go.Proofs.Ytcfmokhiibhfhaa
open Go.RowKit

set_option maxRecDepth 100000 in
set_option maxHeartbeats 400000 in
theorem textBack_big (K : TextCalls) (s t q : ByteArray) (w : World) (hl : 1000 < s.size ∨ 1000 < t.size ∨ 1000 < q.size) (hs : s.size ≤ maxLen) (ht : t.size ≤ maxLen) (hq : q.size ≤ maxLen) :
    Calls Try.prog 4 #[.string s, .string t, .string q] w fun e w' => e = .returned (.bool true) ∧ Below w.heap.size w w' := by
  unfold maxLen at hs ht hq
  rcases (show 1000 < s.size ∨ (s.size ≤ 1000 ∧ 1000 < t.size) ∨ (s.size ≤ 1000 ∧ t.size ≤ 1000 ∧ 1000 < q.size) by omega) with h | ⟨h, h'⟩ | ⟨h, h', h''⟩
  all_goals
    clear hl
    go_enter Try.func4, Try.ntmps4
    go_wp2_with fail
    refine (awake_any K _).mono ?_
    rintro e w1 ⟨rfl, hb1⟩
    go_wp2
    go_ret
    exact ⟨rfl, hb1⟩
theorem str_back (s : ByteArray) : (⟨s.data.toList.toArray⟩ : ByteArray) = s := by rw [Array.toArray_toList]
theorem quote_size (s : ByteArray) (h : s.size ≤ 100000) : (⟨(quoteB s.data.toList).toArray⟩ : ByteArray).size ≤ 1000000 := by
  have h1 := bodyB_length s.data.toList
  rw [size_list] at h1
  show (quoteB s.data.toList).toArray.size ≤ _
  rw [List.size_toArray, quoteB_length]
  omega

set_option maxRecDepth 100000 in
set_option maxHeartbeats 2000000 in
theorem textBack_main (K : TextCalls) (s t q : ByteArray) (w : World) (hs : s.size ≤ 1000) (ht : t.size ≤ 1000) (hq : q.size ≤ 1000) :
    Calls Try.prog 4 #[.string s, .string t, .string q] w fun e w' => e = .returned (.bool true) ∧ Below w.heap.size w w' := by
  have hqs := quote_size s (by omega)
  have Q := Lib.hid (fun w => K.quote s w (by omega))
  have QT := Lib.hid (fun w => K.quote t w (by omega))
  have U := Lib.hid (fun w => unq_lit K ⟨(quoteB s.data.toList).toArray⟩ s.data.toList w hqs (unqB_quote _))
  rw [str_back] at U
  have W := Lib.hid (fun w => words_lit K ⟨(quoteB s.data.toList).toArray⟩ [quoteB s.data.toList] w hqs (words_one _))
  have M := Lib.hid (fun w => may_lit K ⟨(quoteB s.data.toList).toArray⟩ true w hqs (may_quote _))
  have hinj : quoteB s.data.toList = quoteB t.data.toList → s = t := fun h => by
    have := quoteB_inj h
    rw [← str_back s, ← str_back t, this]
  have UQ : (∃ z, unqB q.data.toList = some z ∧ quoteB z = q.data.toList ∧ ∀ w, Calls Try.prog 16 #[.string q] w (Says w (.tuple #[.string ⟨z.toArray⟩, .int .i64 0]))) ∨ ∀ w, Calls Try.prog 16 #[.string q] w (Says w (.tuple #[.string ⟨#[]⟩, .int .i64 6])) := by
    cases h : unqB q.data.toList with
    | none => exact .inr fun w => unq_lit0 K q w (by omega) h
    | some z => exact .inl ⟨z, rfl, unqB_some h, fun w => unq_lit K q z w (by omega) h⟩
  have QZ : ∀ z, quoteB z = q.data.toList → ∀ w, Calls Try.prog 14 #[.string ⟨z.toArray⟩] w (Says w (.string q)) := fun z hz w => by
    have hzl : z.length ≤ 1000 := by
      have h1 := congrArg List.length hz
      have h2 : z.length ≤ (bodyB z).length := by
        have h3 := scan_body z
        exact scan_len h3
      rw [quoteB_length, size_list] at h1
      omega
    have := K.quote ⟨z.toArray⟩ w (by show z.toArray.size ≤ _; rw [List.size_toArray]; omega)
    rw [show (⟨z.toArray⟩ : ByteArray).data.toList = z from rfl, hz, str_back] at this
    exact this
  have HQZ := Lib.hid QZ
  have HUQ := Lib.hid UQ
  have Hinj := Lib.hid hinj
  have HK := Lib.hid K
  clear hqs hinj UQ QZ K
  go_enter Try.func4, Try.ntmps4
  go_wp2_with fail
  refine (awake_any HK.out _).mono ?_
  rintro e w1 ⟨rfl, hB⟩
  go_wp2_with fail
  refine (Q.out _).mono ?_
  rintro e w' ⟨rfl, hb⟩
  replace hB := hB.trans (hb.mono hB.size)
  clear hb
  go_wp2_with fail
  refine (U.out _).mono ?_
  rintro e w' ⟨rfl, hb⟩
  replace hB := hB.trans (hb.mono hB.size)
  clear hb
  go_wp2_with fail
  refine (W.out _).mono ?_
  rintro e w5 ⟨A, c, rfl, hT, hb⟩
  replace hB := hB.trans (hb.mono hB.size)
  clear hb
  go_upto_region 8 with fail
  go_cut [73] (fun v W => v = .bool false ∧ Below w.heap.size w W)
  case first =>
    have hM := fun w' (h : Below w5.heap.size w5 w') => hT.below h
    go_wp2_with fail
    refine (M.out _).mono ?_
    rintro e w6 ⟨rfl, hb⟩
    have hT6 := (hT.below hb).below (below1 w6 (.cells #[.string ⟨(quoteB s.data.toList).toArray⟩] 9))
    have hL : Ts (w6.alloc (.cells #[.string ⟨(quoteB s.data.toList).toArray⟩] 9)) (some ⟨w6.heap.size, 0, none⟩) 1 1 [quoteB s.data.toList] := Sl.lit w6 [.string ⟨(quoteB s.data.toList).toArray⟩] 9 (by simp [maxLen])
    have S := same_any _ _ _ _ _ _ _ _ _ hT6 hL
    rw [decide_eq_true rfl] at S
    have HS := Lib.hid S
    replace hB := (hB.trans (hb.mono hB.size)).alloc (hB.trans (hb.mono hB.size)).size (.cells #[.string ⟨(quoteB s.data.toList).toArray⟩] 9)
    clear hb hT6 hL S hM hT
    go_wp2_with fail
    refine (HS.out).mono ?_
    rintro e w7 ⟨rfl, n7, rfl⟩
    replace hB := below_drewN hB n7
    generalize (w6.alloc (.cells #[.string ⟨(quoteB s.data.toList).toArray⟩] 9)).drewN n7 = w8 at *
    by_cases hst : s = t
    · subst hst
      go_wp2_with fail
      refine (QT.out _).mono ?_
      rintro e w' ⟨rfl, hb⟩
      replace hB := hB.trans (hb.mono hB.size)
      clear hb
      go_wp2_with fail
      go_meet
      exact ⟨rfl, hB⟩
    · have hq1 : ¬ quoteB s.data.toList = quoteB t.data.toList := fun h => hst (Hinj.out h)
      have e1 : (quoteB s.data.toList == quoteB t.data.toList) = false := by rw [beq_eq_false_iff_ne]; exact hq1
      have hl1 : ¬ s.toList = t.toList := fun h => hst (by rw [Go.ByteArray.toList_eq, Go.ByteArray.toList_eq] at h; rw [← str_back s, ← str_back t, h])
      have e2 : (s.toList == t.toList) = false := by rw [beq_eq_false_iff_ne]; exact hl1
      go_wp2_with fail
      refine (QT.out _).mono ?_
      rintro e w' ⟨rfl, hb⟩
      replace hB := hB.trans (hb.mono hB.size)
      clear hb
      go_wp2_with fail
      go_meet
      exact ⟨rfl, hB⟩
  case rest =>
    obtain ⟨rfl, hB⟩ := hcut
    rcases HUQ.out with ⟨z, _, hz, hu⟩ | hu
    · have HU := Lib.hid hu
      have HZ := Lib.hid (HQZ.out z hz)
      clear hz hu
      go_wp2_with fail
      refine (HU.out _).mono ?_
      rintro e w' ⟨rfl, hb⟩
      replace hB := hB.trans (hb.mono hB.size)
      clear hb
      go_wp2_with fail
      refine (HZ.out _).mono ?_
      rintro e w' ⟨rfl, hb⟩
      replace hB := hB.trans (hb.mono hB.size)
      clear hb
      go_wp2
      go_ret
      exact ⟨rfl, hB⟩
    · have HU := Lib.hid hu
      clear hu
      go_wp2_with fail
      refine (HU.out _).mono ?_
      rintro e w' ⟨rfl, hb⟩
      replace hB := hB.trans (hb.mono hB.size)
      clear hb
      go_wp2
      go_ret
      exact ⟨rfl, hB⟩

theorem textBack_all (K : TextCalls) (s t q : ByteArray) (w : World) (hs : s.size ≤ maxLen) (ht : t.size ≤ maxLen) (hq : q.size ≤ maxLen) :
    Calls Try.prog 4 #[.string s, .string t, .string q] w fun e w' => e = .returned (.bool true) ∧ Below w.heap.size w w' := by
  by_cases h : 1000 < s.size ∨ 1000 < t.size ∨ 1000 < q.size
  · exact textBack_big K s t q w h hs ht hq
  · exact textBack_main K s t q w (by omega) (by omega) (by omega)

end Go.Proofs.Ytcfmokhiibhfhaa

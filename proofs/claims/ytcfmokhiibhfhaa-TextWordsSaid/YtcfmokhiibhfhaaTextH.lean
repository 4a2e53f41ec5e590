/-
  Package text: Unquote.
-/
import Derived.Test.YtcfmokhiibhfhaaTextG
import Derived.Test.YtcfmokhiibhfhaaTextK
namespace Go.Proofs.Ytcfmokhiibhfhaa
open Go.RowKit

theorem enc_len {S : List UInt8} (h : ¬ isHex S) : (Lib.encodeRune ((decL S : Nat) : Int)).length = step S := by
  have h0 : rlen S ≠ 0 := fun e => h (.inl e)
  have hl := rlen_le S
  rw [enc_rune (by omega), List.length_take, Nat.min_eq_left hl]
  exact (if_neg h0).symm
/-- What a reading of a quoted form's inside hands back. -/
def readV (r : Option (List UInt8)) : Value := .tuple #[.string ⟨(r.getD []).toArray⟩, .bool r.isSome]
/-- Where the inside of a quoted form is gone through. -/
def ReadI (w0 w : World) (m : ByteArray) (nx : Value) (W : World) : Prop :=
  ∃ (pos n p : Nat) (X : List UInt8), nx = .int .i64 n ∧ pos ≤ m.size ∧ p = max pos n ∧ p ≤ m.size ∧ X.length ≤ p ∧
    Lib.IsBuilderF 47 5 w.heap.size w.heap.size (Lib.byteCells X) W ∧ W.heap[w.heap.size + 1]? = some (.stringIter m pos) ∧ Below w0.heap.size w0 W ∧
    (∀ i, pos ≤ i → i < p → bt m.data.toList i < 128) ∧ mayB (m.data.toList.drop pos) = true ∧ scanB m.data.toList = (scanB (m.data.toList.drop p)).map (X ++ ·)

set_option maxRecDepth 100000 in
set_option maxHeartbeats 4000000 in
theorem readQuoted_any (s : ByteArray) (w : World) (hs : s.size ≤ 1000000) :
    Calls Try.prog 29 #[.string s] w fun e w' => ∃ r : Option (List UInt8), e = .returned (readV r) ∧ Below w.heap.size w w' ∧ (∀ X, r = some X → X.length ≤ s.size) ∧ unqB s.data.toList = (match r with | none => none | some X => if quoteB X = s.data.toList then some X else none) := by
  by_cases h1 : Lib.hasPrefix s.data.toList [34] = true
  · by_cases h2 : Lib.hasSuffix (s.data.toList.drop 1) [34] = true
    · have hin := quote_in h1 h2
      have ht1 := Lib.hid (trim_in h1)
      have ht2 := Lib.hid (trim_mid h2)
      have hml := mid_length s.data.toList
      have hbad := Lib.hid (fun h => quote_may (Q := s.data.toList) h)
      have hno := Lib.hid (fun h => unq_none hin h)
      have hyes := Lib.hid (fun X h => unq_some (X := X) hin h)
      have hsz : s.data.toList.length = s.size := size_list s
      rw [hsz] at hml
      clear hin
      obtain ⟨t, ht⟩ : ∃ t : ByteArray, t.data.toList = s.data.toList.drop 1 := ⟨⟨(s.data.toList.drop 1).toArray⟩, by simp⟩
      have htv : ∀ t m : ByteArray, t.data.toList = m.data.toList → t = m := fun t m h => by
        cases t; cases m
        simpa using h
      have P1 : Hid (∀ w, Calls Try.prog 36 #[.string s, .string ⟨#[34]⟩] w fun e w' => e = .returned (.tuple #[.string t, .bool true]) ∧ w = w') := Lib.hid fun w => by
        refine (Try.strings_CutPrefix _ _ _).mono ?_
        rintro e w' ⟨rfl, rfl⟩
        refine ⟨?_, rfl⟩
        rw [htv t ⟨(s.data.toList.drop 1).toArray⟩ (by rw [ht]), ← ht1.out, ← h1]
      obtain ⟨m, hm⟩ : ∃ m : ByteArray, m.data.toList = mid s.data.toList := ⟨⟨(mid s.data.toList).toArray⟩, by simp⟩
      have P2 : Hid (∀ w, Calls Try.prog 37 #[.string t, .string ⟨#[34]⟩] w fun e w' => e = .returned (.tuple #[.string m, .bool true]) ∧ w = w') := Lib.hid fun w => by
        have htl := size_list t
        rw [ht, List.length_drop] at htl
        refine (Try.strings_CutSuffix _ _ _ (by omega)).mono ?_
        rintro e w' ⟨rfl, rfl⟩
        refine ⟨?_, rfl⟩
        rw [ht, htv m ⟨(mid s.data.toList).toArray⟩ (by rw [hm]), ← ht2.out, ← h2]
      rw [← hm] at hml hbad
      have hno' : Hid (scanB m.data.toList = none → unqB s.data.toList = none) := by rw [hm]; exact hno
      have hyes' : Hid (∀ X, scanB m.data.toList = some X → unqB s.data.toList = if quoteB X = s.data.toList then some X else none) := by rw [hm]; exact hyes
      rw [size_list] at hml
      have hml2 : m.size ≤ s.size := by omega
      clear hml
      clear hno hyes htv ht ht1 ht2 h1 h2 hm
      have RM := Lib.hid (fun w => may_any m w)
      go_enter Try.func29, Try.ntmps29
      go_wp2_with fail
      refine (P1.out _).mono ?_
      rintro e w' ⟨rfl, rfl⟩
      go_wp2_with fail
      refine (P2.out _).mono ?_
      rintro e w' ⟨rfl, rfl⟩
      by_cases hmay : mayB m.data.toList = true
      · rw [hmay] at RM
        go_wp2_with fail
        refine (RM.out _).mono ?_
        rintro e w1 ⟨rfl, hb1⟩
        go_wp2_with fail
        have hI0 : Lib.IsBuilderF 47 5 w1.heap.size w1.heap.size (Lib.byteCells []) _ := Lib.IsBuilderF.of (Lib.fresh_isBuilder 47 5 w1)
        have hs1 := hb1.size
        go_loopw [8] (fun nx W => ReadI w w1 m nx W) (fun _ W => m.size - W.iterPos (w1.heap.size + 1))
        case atStart =>
          refine ⟨0, 0, 0, [], rfl, Nat.zero_le _, rfl, Nat.zero_le _, Nat.le_refl _, hI0.alloc _, ?_, (hb1.alloc hs1 _).alloc (by simp; omega) _, fun i h1 h2 => by omega, by rw [List.drop_zero]; exact hmay, by rw [List.drop_zero]; simp⟩
          have := it_start (w1.alloc (.cells #[.pointer none, .slice none 0 0] 47)) m
          rwa [World.size_alloc] at this
        case round =>
          obtain ⟨pos, n, p, X, rfl, hps, hp', hpm, hXl, hI, hit, hbw, hasc, hmy, hz⟩ := hrel
          have Hz := Lib.hid hz
          have Hasc := Lib.hid hasc
          clear hz hasc hI0
          have hsz2 : w1.heap.size + 1 < wr.heap.size := (Array.getElem?_eq_some_iff.1 hit).1
          by_cases hp : pos < m.size
          · have hnx : ∀ ty, (Instr.next (.pointer (some ⟨w1.heap.size + 1, 0, none⟩)) true ty).run Try.prog wr = _ := fun ty => Lib.run_next_any_at wr (w1.heap.size + 1) m pos ty hit hp
            have hd := Lib.hid (dec_step m pos hp)
            have hr := Lib.hid (dec_rune m pos)
            have hl := Lib.hid (rest_list m (pos + 1))
            have hne := Lib.hid (drop_ne hp)
            have hb0 := Lib.hid (show bt m.data.toList pos = bt (m.data.toList.drop pos) 0 by rw [bt_drop, Nat.add_zero])
            rw [hr.out, hd.out] at hnx
            have hst := step_pos (m.data.toList.drop pos)
            have hsl2 : pos + step (m.data.toList.drop pos) ≤ m.size := by have := step_le (drop_ne hp); rw [List.length_drop, size_list] at this; omega
            have hit2 := Lib.iterAt_heap wr (w1.heap.size + 1) m pos (pos + step (m.data.toList.drop pos)) hit
            have hbw2 := Lib.below_iterAt hbw (k := w1.heap.size + 1) (by omega) m (pos + step (m.data.toList.drop pos))
            have hI2 := hI.iterAt hit (pos + step (m.data.toList.drop pos))
            have hsz3 : (wr.iterAt (w1.heap.size + 1) m (pos + step (m.data.toList.drop pos))).heap.size = wr.heap.size := Lib.iterAt_size _ _ _ _
            have hnh : Hid (¬ isHex (m.data.toList.drop pos)) := Lib.hid fun h => by rw [mayB_hex hne.out h] at hmy; exact absurd hmy (by decide)
            have hmy2 := mayB_go hne.out hnh.out
            rw [hmy, List.drop_drop] at hmy2
            have Hmy2 := Lib.hid hmy2.symm
            clear hmy2 hmy
            have hlt := decL_lt (m.data.toList.drop pos)
            have hone := Lib.hid (fun h => step_one (S := m.data.toList.drop pos) hne.out h)
            by_cases hc : pos < n
            · have hpn : p = n := by omega
              subst hpn
              clear hp'
              have h128 := Hasc.out pos (Nat.le_refl _) hc
              have hs1 := hone.out (by rw [← hb0.out]; exact h128)
              rw [hs1] at hnx hsl2 hit2 hbw2 hI2 Hmy2
              have c1 : decide ((pos : Int) < (p : Int)) = true := by simp; omega
              clear h128 hone hnh hd hr hl hne hb0 hst hsz3
              generalize decL (m.data.toList.drop pos) = r at *
              go_wp2_with fail
              go_roundw
              case rel => exact ⟨pos + 1, p, p, X, rfl, hsl2, by omega, hpm, hXl, hI2, hit2, hbw2, fun i h1 h2 => Hasc.out i (by omega) h2, Hmy2.out, Hz.out⟩
              case measure =>
                simp only [World.iterPos, hit2, hit]
                omega
            · have hpn : p = pos := by omega
              subst hpn
              clear hp'
              have c1 : decide ((p : Int) < (n : Int)) = false := by simp; omega
              clear Hasc
              by_cases h34 : decL (m.data.toList.drop p) = 34
              · have hb34 := (dec_ascii hne.out (n := 34) (by omega)).1 h34
                have hres := Lib.hid (hno'.out (by rw [Hz.out, sc_quote (by rw [size_list]; exact hp) (by rw [hb0.out]; exact hb34)]; rfl))
                rw [h34] at hnx
                clear hone hnh hd hr hl hne hb0 hst hsz3 hb34 h34 Hz hlt
                go_wp2_with fail
                go_ret2
                exact ⟨none, rfl, hbw2, fun X h => by (cases h), hres.out⟩
              · have c34 : ((decL (m.data.toList.drop p) : Int) == 34) = false := by rw [beq_eq_false_iff_ne]; omega
                by_cases h92 : decL (m.data.toList.drop p) = 92
                · have hb92 := Lib.hid (show bt m.data.toList p = 92 by rw [hb0.out]; exact (dec_ascii hne.out (n := 92) (by omega)).1 h92)
                  have hs1 := hone.out (by rw [← hb0.out, hb92.out]; omega)
                  obtain ⟨x, k, hxk⟩ : ∃ x k, escE (m.data.toList.drop (p + 1)) = (x, k) := ⟨_, _, rfl⟩
                  have RE := Lib.hid (fun w => readEscape_any (m.extract (p + 1) m.size) x k w (by rw [ByteArray.size_extract]; omega) (by rw [hl.out]; exact hxk))
                  rw [hs1] at hnx hsl2 hit2 hbw2 hI2 Hmy2 hsz3
                  rw [h92] at hnx
                  by_cases hk : k = 0
                  · subst hk
                    have hres := Lib.hid (hno'.out (by rw [Hz.out, esc_none (by rw [size_list]; exact hp) hb92.out hxk]; rfl))
                    clear hone hnh hd hr hl hne hb0 hst hsz3 hb92 h34 c34 h92 Hz hlt hxk
                    go_wp2_with fail
                    refine (RE.out _).mono ?_
                    rintro e w' ⟨rfl, rfl⟩
                    go_wp2_with fail
                    go_ret2
                    exact ⟨none, rfl, hbw2, fun X h => by (cases h), hres.out⟩
                  · obtain ⟨e1, e2, e3, e4, e5⟩ := esc_some hb92.out hxk hk
                    rw [size_list] at e2
                    have hz2 := Hz.out
                    rw [e1, Option.map_map] at hz2
                    have Hz2 := Lib.hid hz2
                    have E5 := Lib.hid e5
                    have ck : ((k : Int) == 0) = false := by rw [beq_eq_false_iff_ne]; omega
                    clear hone hnh hd hr hl hne hb0 hst hb92 h34 c34 h92 Hz hlt hxk hz2 e1 e5 hk
                    go_wp2_with fail
                    refine (RE.out _).mono ?_
                    rintro e w' ⟨rfl, rfl⟩
                    go_wp2_with fail
                    refine (writeByte_any w1.heap.size w1.heap.size X (UInt8.ofNat x) _ _ hI2 (by omega) (by omega) (by rw [UInt8.toNat_ofNat']; omega)).mono ?_
                    rintro e W ⟨rfl, hW⟩
                    go_wp2_with fail
                    go_roundw
                    case rel => exact ⟨p + 1, p + 1 + k, p + 1 + k, X ++ [UInt8.ofNat x], by go_num, hsl2, by omega, e2, by simp; omega, hW.1, hW.2.2.iter hit2 (by omega), hbw2.trans (hW.2.1.mono (by omega)), fun i h1 h2 => E5.out i (by omega) h2, Hmy2.out, by rw [Hz2.out]; congr 1; funext z; simp⟩
                    case measure =>
                      simp only [World.iterPos, hW.2.2.iter hit2 (by omega), hit]
                      omega
                · have c92 : ((decL (m.data.toList.drop p) : Int) == 92) = false := by rw [beq_eq_false_iff_ne]; omega
                  have hsc := scan_rune hne.out hnh.out h34 h92
                  have hz2 := Hz.out
                  rw [hsc, Option.map_map, List.drop_drop] at hz2
                  have Hz2 := Lib.hid hz2
                  have henl := Lib.hid (enc_len hnh.out)
                  clear hone hnh hd hr hl hne hb0 Hz hsc hz2 h34 h92
                  generalize step (m.data.toList.drop p) = sp at *
                  generalize decL (m.data.toList.drop p) = r at *
                  go_wp2_with fail
                  refine (writeRune_any w1.heap.size w1.heap.size X r _ hI2 (by omega) (by omega) hlt).mono ?_
                  rintro e W ⟨k, rfl, hW⟩
                  go_wp2_with fail
                  go_roundw
                  case rel => exact ⟨p + sp, n, p + sp, X ++ Lib.encodeRune r, rfl, hsl2, by omega, hsl2, by rw [List.length_append, henl.out]; omega, hW.1, hW.2.2.iter hit2 (by omega), hbw2.trans (hW.2.1.mono (by omega)), fun i h1 h2 => by omega, Hmy2.out, by rw [Hz2.out]; congr 1; funext z; simp⟩
                  case measure =>
                    simp only [World.iterPos, hW.2.2.iter hit2 (by omega), hit]
                    omega
          · have hnx : ∀ ty, (Instr.next (.pointer (some ⟨w1.heap.size + 1, 0, none⟩)) true ty).run Try.prog wr = _ := fun ty => Lib.run_next_end_at wr (w1.heap.size + 1) m pos ty hit hp
            have hz2 := Hz.out
            rw [List.drop_of_length_le (by rw [size_list]; omega)] at hz2
            have hres := Lib.hid (hyes'.out X (by rw [hz2, scanB.eq_def]; simp))
            clear hz2 Hz Hasc hmy
            go_wp2_with fail
            refine (Try.Builder_String_any_k w1.heap.size w1.heap.size X _ hI (by omega)).mono ?_
            rintro e W ⟨rfl, _, b2, _⟩
            go_wp2_with fail
            go_ret2
            exact ⟨some X, rfl, hbw.trans (b2.mono (by omega)), fun Y h => by (injection h with h; subst h; omega), hres.out⟩
      · rw [Bool.not_eq_true] at hmay
        have hres := Lib.hid (hbad.out hmay)
        rw [hmay] at RM
        go_wp2_with fail
        refine (RM.out _).mono ?_
        rintro e w1 ⟨rfl, hb1⟩
        go_wp2_with fail
        go_ret2
        exact ⟨none, rfl, hb1, fun X h => by (cases h), hres.out⟩
    · rw [Bool.not_eq_true] at h2
      have hres := Lib.hid (quote_out2 h2)
      have ht1 := Lib.hid (trim_in h1)
      have htv : ∀ t m : ByteArray, t.data.toList = m.data.toList → t = m := fun t m h => by
        cases t; cases m
        simpa using h
      obtain ⟨t, ht⟩ : ∃ t : ByteArray, t.data.toList = s.data.toList.drop 1 := ⟨⟨(s.data.toList.drop 1).toArray⟩, by simp⟩
      have P1 : Hid (∀ w, Calls Try.prog 36 #[.string s, .string ⟨#[34]⟩] w fun e w' => e = .returned (.tuple #[.string t, .bool true]) ∧ w = w') := Lib.hid fun w => by
        refine (Try.strings_CutPrefix _ _ _).mono ?_
        rintro e w' ⟨rfl, rfl⟩
        refine ⟨?_, rfl⟩
        rw [htv t ⟨(s.data.toList.drop 1).toArray⟩ (by rw [ht]), ← ht1.out, ← h1]
      have P2 : Hid (∀ w, Calls Try.prog 37 #[.string t, .string ⟨#[34]⟩] w fun e w' => ∃ m, e = .returned (.tuple #[.string m, .bool false]) ∧ w = w') := Lib.hid fun w => by
        have htl := size_list t
        rw [ht, List.length_drop, size_list] at htl
        refine (Try.strings_CutSuffix _ _ _ (by omega)).mono ?_
        rintro e w' ⟨rfl, rfl⟩
        have e : Lib.hasSuffix t.data.toList [34] = false := by rw [ht]; exact h2
        refine ⟨⟨(Lib.trimSuffix t.data.toList [34]).toArray⟩, ?_, rfl⟩
        rw [← e]
      clear ht htv ht1 h1 h2
      go_enter Try.func29, Try.ntmps29
      go_wp2_with fail
      refine (P1.out _).mono ?_
      rintro e w' ⟨rfl, rfl⟩
      go_wp2_with fail
      refine (P2.out _).mono ?_
      rintro e w' ⟨m, rfl, rfl⟩
      go_wp2_with fail
      go_ret2
      exact ⟨none, rfl, Below.refl _ _, fun X h => by (cases h), hres.out⟩
  · rw [Bool.not_eq_true] at h1
    have hres := Lib.hid (quote_out1 h1)
    have P1 : Hid (∀ w, Calls Try.prog 36 #[.string s, .string ⟨#[34]⟩] w fun e w' => e = .returned (.tuple #[.string s, .bool false]) ∧ w = w') := Lib.hid fun w => by
      refine (Try.strings_CutPrefix _ _ _).mono ?_
      rintro e w' ⟨rfl, rfl⟩
      refine ⟨?_, rfl⟩
      have : Lib.trimPrefix s.data.toList [34] = s.data.toList := if_neg (by rw [h1]; decide)
      show Ending.returned (.tuple #[.string ⟨(Lib.trimPrefix s.data.toList [34]).toArray⟩, .bool (Lib.hasPrefix s.data.toList [34])]) = _
      rw [this, h1, Array.toArray_toList]
    have P2 : Hid (∀ w, Calls Try.prog 37 #[.string s, .string ⟨#[34]⟩] w fun e w' => ∃ m b, e = .returned (.tuple #[.string m, .bool b]) ∧ w = w') := Lib.hid fun w => by
      refine (Try.strings_CutSuffix _ _ _ (by omega)).mono ?_
      rintro e w' ⟨rfl, rfl⟩
      exact ⟨_, _, rfl, rfl⟩
    clear h1
    go_enter Try.func29, Try.ntmps29
    go_wp2_with fail
    refine (P1.out _).mono ?_
    rintro e w' ⟨rfl, rfl⟩
    go_wp2_with fail
    refine (P2.out _).mono ?_
    rintro e w' ⟨m, b, rfl, rfl⟩
    go_wp2_with fail
    go_ret2
    exact ⟨none, rfl, Below.refl _ _, fun X h => by (cases h), hres.out⟩


set_option maxHeartbeats 1000000 in
theorem unq_any (s : ByteArray) (w : World) (hs : s.size ≤ 1000000) : Calls Try.prog 16 #[.string s] w (Says w (unqE s.data.toList)) := by
  go_enter Try.func16, Try.ntmps16
  go_wp2_with fail
  refine (readQuoted_any s _ hs).mono ?_
  rintro e w1 ⟨r, rfl, hb1, hX, hu⟩
  cases r with
  | none =>
    have hres := Lib.hid (unqE_none hu)
    clear hu hX
    unfold readV
    go_wp2_with fail
    go_ret2
    exact ⟨by rw [hres.out]; rfl, hb1⟩
  | some X =>
    have hXl := hX X rfl
    clear hX
    simp only at hu
    have RQ := Lib.hid (fun w => quote_any ⟨X.toArray⟩ w (by show X.toArray.size ≤ _; rw [List.size_toArray]; omega))
    obtain ⟨x, hx⟩ : ∃ x : ByteArray, x = ⟨X.toArray⟩ := ⟨_, rfl⟩
    have hxl : x.data.toList = X := by rw [hx]
    rw [← hx, hxl] at RQ
    obtain ⟨y, hy⟩ : ∃ y : ByteArray, y = ⟨(quoteB X).toArray⟩ := ⟨_, rfl⟩
    have hyl : y.data.toList = quoteB X := by rw [hy]
    rw [← hy] at RQ
    have hv : readV (some X) = .tuple #[.string x, .bool true] := by rw [hx]; rfl
    rw [hv]
    by_cases hq : quoteB X = s.data.toList
    · rw [if_pos hq] at hu
      have hres := unqE_some hu
      rw [← hx] at hres
      have Hres := Lib.hid hres
      have c1 : (y.toList == s.toList) = true := by rw [beq_iff_eq, Go.ByteArray.toList_eq, Go.ByteArray.toList_eq, hyl, hq]
      clear hu hres hq hyl hy hxl hx hv
      go_wp2_with fail
      refine (RQ.out _).mono ?_
      rintro e w2 ⟨rfl, hb2⟩
      go_wp2_with fail
      go_ret2
      exact ⟨by rw [Hres.out]; rfl, hb1.trans (hb2.mono hb1.size)⟩
    · rw [if_neg hq] at hu
      have Hres := Lib.hid (unqE_none hu)
      have c1 : (y.toList == s.toList) = false := by rw [beq_eq_false_iff_ne, Go.ByteArray.toList_eq, Go.ByteArray.toList_eq, hyl]; exact hq
      clear hu hq hyl hy hxl hx hv
      go_wp2_with fail
      refine (RQ.out _).mono ?_
      rintro e w2 ⟨rfl, hb2⟩
      go_wp2_with fail
      go_ret2
      exact ⟨by rw [Hres.out]; rfl, hb1.trans (hb2.mono hb1.size)⟩

/-- The contracts of package text's calls, as the statements of layer 4 ask for them. -/
theorem text_calls : TextCalls where
  tok := fun s w hs => tok_any s w hs
  may := fun s w _ => may_any s w
  runes := fun s w hs => runes_any s w hs
  quote := fun s w hs => quote_any s w (by omega)
  unq := fun s w hs => unq_any s w hs
  words := fun s w hs => words_any s w hs

end Go.Proofs.Ytcfmokhiibhfhaa

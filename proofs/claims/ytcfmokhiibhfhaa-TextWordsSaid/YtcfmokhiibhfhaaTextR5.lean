/-
  What the document's own answers for layer 4 come to: the words of a text. (Written by gen_TextR5.py.)
-/
import Derived.Test.YtcfmokhiibhfhaaTextR4
import Derived.Test.YtcfmokhiibhfhaaTextV
import Derived.Test.YtcfmokhiibhfhaaApp
import Derived.Maps.AppendAt
namespace Go.Proofs.Ytcfmokhiibhfhaa
open Go.RowKit

theorem row_form {w : World} {base n : Nat} {e : TypeId} {v : Value} {xs : List Value} (h : w.ownsRow base e 1 v n xs) : ∃ A c, v = .slice A n c := by
  obtain ⟨h1, h2⟩ := h
  rcases h2 with ⟨rfl, h3⟩ | ⟨g, cap, cur, rfl, r⟩
  · subst h3
    exact ⟨none, 0, rfl⟩
  · exact ⟨_, _, rfl⟩
theorem row_lt {w : World} {base size n m c : Nat} {e : TypeId} {A : Option Addr} {xs : List Value} (h : w.ownsRow base e size (.slice A m c) n xs) : ∀ k, rowOf A = some k → base ≤ k := by
  intro k hk
  obtain ⟨_, h2⟩ := h
  rcases h2 with ⟨h3, _⟩ | ⟨g, cap, cur, hv, hb, hh, _⟩
  · injection h3 with e1
    subst e1
    cases hk
  · injection hv with e1
    subst e1
    injection hk with hk
    subst hk
    exact hb
theorem info_str : (Try.prog.info? 9).map (fun i => (i.zero, i.size, i.bytes)) = some (some (.string ⟨#[]⟩), 1, 16) := by kernel_rfl
/-- A text as a value. -/
def textV (s : List UInt8) : Value := .string ⟨s.toArray⟩
theorem textV_of (s : ByteArray) : textV s.data.toList = .string s := by unfold textV; rw [Array.toArray_toList]
/-- The slice value is a row of texts of the call's own. -/
def Texts (w : World) (base : Nat) (A : Option Addr) (n c : Nat) (l : List (List UInt8)) : Prop := w.ownsRow base 9 1 (.slice A n c) n (l.map textV)
/-- What a call hands back: texts, and whether there are any. -/
def GivesW (w : World) (r : Option (List (List UInt8))) (x : Ending) (w' : World) : Prop :=
  ∃ A c, x = .returned (.tuple #[.slice A (r.getD []).length c, .bool r.isSome]) ∧ Texts w' w.heap.size A (r.getD []).length c (r.getD []) ∧ Below w.heap.size w w'
theorem GivesW.none_ {w w' : World} (h : Below w.heap.size w w') : GivesW w none (.returned (.tuple #[.slice none 0 0, .bool false])) w' := ⟨none, 0, rfl, World.ownsRow_nil _ _ _ _, h⟩
def WordsInv (w : World) (s : ByteArray) (x y vq vb i : Value) (W : World) : Prop :=
  ∃ (k : Nat) (q b : Bool) (wd : ByteArray) (l : List (List UInt8)) (A : Option Addr) (c : Nat), k ≤ s.size ∧ i = .int .i64 k ∧ x = .slice A l.length c ∧ y = .string wd ∧ vq = .bool q ∧ vb = .bool b ∧ wd.size ≤ k ∧ l.length ≤ k ∧ Below w.heap.size w W ∧ Texts W w.heap.size A l.length c l ∧ wordsG (s.data.toList.drop k) q b wd.data.toList l = wordsB s.data.toList
theorem wd_add (a b : ByteArray) : (a ++ b).data.toList = a.data.toList ++ b.data.toList := by rw [ByteArray.data_append]; simp

set_option maxRecDepth 100000 in
set_option maxHeartbeats 4000000 in
theorem rwords_any (s : ByteArray) (w : World) (hs : s.size ≤ 1000000000) :
    Calls Try.prog 19 #[.string s] w (GivesW w (wordsB s.data.toList)) := by
  have hs2 : s.size ≤ 140737488355328 := by omega
  have R := Lib.hid (fun k w h => rune_any s k w hs2 h)
  obtain ⟨i0, hi0', hz0', hz1', hz2'⟩ := info_parts info_str
  have Hi := Lib.hid (And.intro hi0' (And.intro hz0' (And.intro hz1' hz2')))
  clear hi0' hz0' hz1' hz2'
  go_enter Try.func19, Try.ntmps19
  go_wp2_with fail
  go_loopw [4, 5, 6, 7, 8, 9, 10, 11] (fun x y vq vb i _ _ _ W => WordsInv w s x y vq vb i W) (fun _ _ _ _ i _ _ _ _ => s.size - (intOf i).toNat)
  case atStart => exact ⟨0, false, false, ⟨#[]⟩, [], none, 0, Nat.zero_le _, rfl, rfl, rfl, rfl, rfl, Nat.le_refl _, Nat.le_refl _, Below.refl _ _, World.ownsRow_nil _ _ _ _, by rw [List.drop_zero]; rfl⟩
  case round =>
    obtain ⟨k, q, b, wd, l, A, c, hk, rfl, rfl, rfl, rfl, rfl, hwk, hlk, hB, hT, hz⟩ := hrel
    have Hz := Lib.hid hz
    clear hz
    by_cases hlt : k < s.size
    · have Hb := Lib.hid (bt_drop0 hlt)
      have hfit := rlen_fits hlt
      have hfs := step_le (drop_ne hlt)
      rw [List.length_drop, size_list] at hfs
      have hsp := step_pos (s.data.toList.drop k)
      have hcons := wordsG_cons (drop_ne hlt) q b wd.data.toList l
      rw [List.drop_drop, Hz.out] at hcons
      have Rk := Lib.hid (fun w => R.out k w hlt)
      have hst : step (s.data.toList.drop k) = if rlen (s.data.toList.drop k) = 0 then 1 else rlen (s.data.toList.drop k) := rfl
      have hex : (s.extract k (k + step (s.data.toList.drop k))).data.toList = (s.data.toList.drop k).take (step (s.data.toList.drop k)) := by rw [extract_list, Nat.add_sub_cancel_left]
      rw [← hex, ← wd_add, Hb.out] at hcons
      have hez : (s.extract k (k + step (s.data.toList.drop k))).size = step (s.data.toList.drop k) := by rw [extract_size s (by omega), Nat.add_sub_cancel_left]
      generalize step (s.data.toList.drop k) = st at *
      generalize rlen (s.data.toList.drop k) = r at *
      have hws : (wd ++ s.extract k (k + st)).size = wd.size + st := by rw [ByteArray.size_append, hez]
      have Hws := Lib.hid hws
      have hfs2 : k + st ≤ s.size := by omega
      obtain ⟨c0, hc0⟩ : ∃ c0, s[k].toNat = c0 := ⟨_, rfl⟩
      rw [hc0] at hcons
      have Hc := Lib.hid hcons
      clear hcons hex hws hfs Hb Hz R
      by_cases h0 : r = 0
      · subst h0
        rw [if_pos rfl] at hst
        subst hst
        cases b
        · cases q
          · by_cases c34 : c0 = 34
            · subst c34
              have Hn := Lib.hid (by have := Hc.out; rw [if_neg (by decide), if_neg (by decide), if_pos rfl] at this; exact this.symm)
              clear Hc
              go_wp2_with fail
              refine (Rk.out _).mono ?_
              rintro e w' ⟨rfl, rfl⟩
              go_wp2_with fail
              go_roundw
              case rel => exact ⟨k + 1, true, false, wd ++ s.extract k (k + 1), l, A, c, by omega, by go_num, rfl, rfl, rfl, rfl, by rw [Hws.out]; omega, by omega, hB, hT, Hn.out⟩
              case measure => simp [intOf]; omega
            · have e1 : ((c0 : Int) == 34) = false := by rw [beq_eq_false_iff_ne]; omega
              by_cases c32 : c0 = 32
              · subst c32
                by_cases hwd : wd.data.toList = []
                · have hres : Hid (wordsB s.data.toList = none) := Lib.hid (by have := Hc.out; rw [if_neg (by decide), if_neg (by decide), if_neg (by decide), if_pos (by decide), if_pos hwd] at this; exact this)
                  have hw1 : (wd.toList == []) = true := by rw [Go.ByteArray.toList_eq, hwd]; rfl
                  have hw2 : wd.toList = [] := by rw [Go.ByteArray.toList_eq, hwd]
                  clear Hc hwd
                  go_wp2_with fail
                  refine (Rk.out _).mono ?_
                  rintro e w' ⟨rfl, rfl⟩
                  go_wp2
                  go_ret2
                  rw [hres.out]
                  exact GivesW.none_ hB
                · have Hn : Hid (wordsG (s.data.toList.drop (k + 1)) false false [] (l ++ [wd.data.toList]) = wordsB s.data.toList) := Lib.hid (by have := Hc.out; rw [if_neg (by decide), if_neg (by decide), if_neg (by decide), if_pos (by decide), if_neg hwd] at this; exact this.symm)
                  have hw1 : (wd.toList == []) = false := by rw [Go.ByteArray.toList_eq, beq_eq_false_iff_ne]; exact hwd
                  have hw2 : ¬ wd.toList = [] := by rw [Go.ByteArray.toList_eq]; exact hwd
                  clear Hc hwd
                  obtain ⟨hi0, hz0, hz1, hz2⟩ := Hi.out
                  have hnews := cell_one_new wr (.string wd) 9
                  have hge := row_lt hT
                  go_wp2_with fail
                  refine (Rk.out _).mono ?_
                  rintro e w' ⟨rfl, rfl⟩
                  go_wp2_with (at_builtin; go_loud (refine wpList_append_own_at _ rfl (.tmp 51) (.tmp 53) 31 rfl w.heap.size 9 i0 (.string ⟨#[]⟩) 1 16 Try.underlying31 hi0 hz0 hz1 hz2 rfl (by omega) (.slice A l.length c) l.length (l.map textV) rfl (World.ownsRow.alloc hT _) ⟨wr.heap.size, 0, none⟩ 1 1 [.string wd] rfl rfl hnews (by simp [Value.oneCell']) (by simp only [maxLen]; omega) (by omega) (by have := hB.size; simp; omega) ?_); intro v' w6 hown6 hgrow _ hat)
                  obtain ⟨A6, c6, rfl⟩ := row_form hown6
                  rw [ownBlock_slice] at hgrow
                  have hB6 := (hB.alloc hB.size _).grown hgrow (by have := hB.size; simp; omega) (fun k hk => hge k hk)
                  have hT6 : Texts w6 w.heap.size A6 (l ++ [wd.data.toList]).length c6 (l ++ [wd.data.toList]) := by
                    unfold Texts
                    rw [List.map_append, List.map_singleton, textV_of, List.length_append, List.length_singleton]
                    exact hown6
                  go_roundw
                  case rel => exact ⟨k + 1, false, false, ⟨#[]⟩, l ++ [wd.data.toList], A6, c6, by omega, by go_num, by simp, rfl, rfl, rfl, Nat.zero_le _, by simp; omega, hB6, hT6, Hn.out⟩
                  case measure => simp [intOf]; omega
              · have e2 : ((c0 : Int) == 32) = false := by rw [beq_eq_false_iff_ne]; omega
                have Hn := Lib.hid (by have := Hc.out; rw [if_neg (by decide), if_neg (by simp), if_neg c34, if_neg (fun h => c32 h.1)] at this; exact this.symm)
                clear Hc
                go_wp2_with fail
                refine (Rk.out _).mono ?_
                rintro e w' ⟨rfl, rfl⟩
                go_wp2_with fail
                go_roundw
                case rel => exact ⟨k + 1, false, false, wd ++ s.extract k (k + 1), l, A, c, by omega, by go_num, rfl, rfl, rfl, rfl, by rw [Hws.out]; omega, by omega, hB, hT, Hn.out⟩
                case measure => simp [intOf]; omega
          · by_cases c92 : c0 = 92
            · subst c92
              have Hn := Lib.hid (by have := Hc.out; rw [if_neg (by decide), if_pos (by decide)] at this; exact this.symm)
              clear Hc
              go_wp2_with fail
              refine (Rk.out _).mono ?_
              rintro e w' ⟨rfl, rfl⟩
              go_wp2_with fail
              go_roundw
              case rel => exact ⟨k + 1, true, true, wd ++ s.extract k (k + 1), l, A, c, by omega, by go_num, rfl, rfl, rfl, rfl, by rw [Hws.out]; omega, by omega, hB, hT, Hn.out⟩
              case measure => simp [intOf]; omega
            · have e1 : ((c0 : Int) == 92) = false := by rw [beq_eq_false_iff_ne]; omega
              by_cases c34 : c0 = 34
              · subst c34
                have Hn := Lib.hid (by have := Hc.out; rw [if_neg (by decide), if_neg (by decide), if_pos rfl] at this; exact this.symm)
                clear Hc
                go_wp2_with fail
                refine (Rk.out _).mono ?_
                rintro e w' ⟨rfl, rfl⟩
                go_wp2_with fail
                go_roundw
                case rel => exact ⟨k + 1, false, false, wd ++ s.extract k (k + 1), l, A, c, by omega, by go_num, rfl, rfl, rfl, rfl, by rw [Hws.out]; omega, by omega, hB, hT, Hn.out⟩
                case measure => simp [intOf]; omega
              · have e2 : ((c0 : Int) == 34) = false := by rw [beq_eq_false_iff_ne]; omega
                have Hn := Lib.hid (by have := Hc.out; rw [if_neg (by decide), if_neg (fun h => c92 h.2), if_neg c34, if_neg (by simp)] at this; exact this.symm)
                clear Hc
                by_cases c32 : c0 = 32
                · subst c32
                  go_wp2_with fail
                  refine (Rk.out _).mono ?_
                  rintro e w' ⟨rfl, rfl⟩
                  go_wp2_with fail
                  go_roundw
                  case rel => exact ⟨k + 1, true, false, wd ++ s.extract k (k + 1), l, A, c, by omega, by go_num, rfl, rfl, rfl, rfl, by rw [Hws.out]; omega, by omega, hB, hT, Hn.out⟩
                  case measure => simp [intOf]; omega
                · have e3 : ((c0 : Int) == 32) = false := by rw [beq_eq_false_iff_ne]; omega
                  go_wp2_with fail
                  refine (Rk.out _).mono ?_
                  rintro e w' ⟨rfl, rfl⟩
                  go_wp2_with fail
                  go_roundw
                  case rel => exact ⟨k + 1, true, false, wd ++ s.extract k (k + 1), l, A, c, by omega, by go_num, rfl, rfl, rfl, rfl, by rw [Hws.out]; omega, by omega, hB, hT, Hn.out⟩
                  case measure => simp [intOf]; omega
        · have Hn := Lib.hid (by have := Hc.out; rw [if_pos rfl] at this; exact this.symm)
          clear Hc
          cases q
          · go_wp2_with fail
            refine (Rk.out _).mono ?_
            rintro e w' ⟨rfl, rfl⟩
            go_wp2_with fail
            go_roundw
            case rel => exact ⟨k + 1, false, false, wd ++ s.extract k (k + 1), l, A, c, by omega, by go_num, rfl, rfl, rfl, rfl, by rw [Hws.out]; omega, by omega, hB, hT, Hn.out⟩
            case measure => simp [intOf]; omega
          · go_wp2_with fail
            refine (Rk.out _).mono ?_
            rintro e w' ⟨rfl, rfl⟩
            go_wp2_with fail
            go_roundw
            case rel => exact ⟨k + 1, true, false, wd ++ s.extract k (k + 1), l, A, c, by omega, by go_num, rfl, rfl, rfl, rfl, by rw [Hws.out]; omega, by omega, hB, hT, Hn.out⟩
            case measure => simp [intOf]; omega
      · rw [if_neg h0] at hst
        subst hst
        cases b
        · cases q
          · by_cases c34 : c0 = 34
            · subst c34
              have Hn := Lib.hid (by have := Hc.out; rw [if_neg (by decide), if_neg (by decide), if_pos rfl] at this; exact this.symm)
              clear Hc
              go_wp2_with fail
              refine (Rk.out _).mono ?_
              rintro e w' ⟨rfl, rfl⟩
              go_wp2_with fail
              go_roundw
              case rel => exact ⟨k + st, true, false, wd ++ s.extract k (k + st), l, A, c, by omega, by go_num, rfl, rfl, rfl, rfl, by rw [Hws.out]; omega, by omega, hB, hT, Hn.out⟩
              case measure => simp [intOf]; omega
            · have e1 : ((c0 : Int) == 34) = false := by rw [beq_eq_false_iff_ne]; omega
              by_cases c32 : c0 = 32
              · subst c32
                by_cases hwd : wd.data.toList = []
                · have hres : Hid (wordsB s.data.toList = none) := Lib.hid (by have := Hc.out; rw [if_neg (by decide), if_neg (by decide), if_neg (by decide), if_pos (by decide), if_pos hwd] at this; exact this)
                  have hw1 : (wd.toList == []) = true := by rw [Go.ByteArray.toList_eq, hwd]; rfl
                  have hw2 : wd.toList = [] := by rw [Go.ByteArray.toList_eq, hwd]
                  clear Hc hwd
                  go_wp2_with fail
                  refine (Rk.out _).mono ?_
                  rintro e w' ⟨rfl, rfl⟩
                  go_wp2
                  go_ret2
                  rw [hres.out]
                  exact GivesW.none_ hB
                · have Hn : Hid (wordsG (s.data.toList.drop (k + st)) false false [] (l ++ [wd.data.toList]) = wordsB s.data.toList) := Lib.hid (by have := Hc.out; rw [if_neg (by decide), if_neg (by decide), if_neg (by decide), if_pos (by decide), if_neg hwd] at this; exact this.symm)
                  have hw1 : (wd.toList == []) = false := by rw [Go.ByteArray.toList_eq, beq_eq_false_iff_ne]; exact hwd
                  have hw2 : ¬ wd.toList = [] := by rw [Go.ByteArray.toList_eq]; exact hwd
                  clear Hc hwd
                  obtain ⟨hi0, hz0, hz1, hz2⟩ := Hi.out
                  have hnews := cell_one_new wr (.string wd) 9
                  have hge := row_lt hT
                  go_wp2_with fail
                  refine (Rk.out _).mono ?_
                  rintro e w' ⟨rfl, rfl⟩
                  go_wp2_with (at_builtin; go_loud (refine wpList_append_own_at _ rfl (.tmp 51) (.tmp 53) 31 rfl w.heap.size 9 i0 (.string ⟨#[]⟩) 1 16 Try.underlying31 hi0 hz0 hz1 hz2 rfl (by omega) (.slice A l.length c) l.length (l.map textV) rfl (World.ownsRow.alloc hT _) ⟨wr.heap.size, 0, none⟩ 1 1 [.string wd] rfl rfl hnews (by simp [Value.oneCell']) (by simp only [maxLen]; omega) (by omega) (by have := hB.size; simp; omega) ?_); intro v' w6 hown6 hgrow _ hat)
                  obtain ⟨A6, c6, rfl⟩ := row_form hown6
                  rw [ownBlock_slice] at hgrow
                  have hB6 := (hB.alloc hB.size _).grown hgrow (by have := hB.size; simp; omega) (fun k hk => hge k hk)
                  have hT6 : Texts w6 w.heap.size A6 (l ++ [wd.data.toList]).length c6 (l ++ [wd.data.toList]) := by
                    unfold Texts
                    rw [List.map_append, List.map_singleton, textV_of, List.length_append, List.length_singleton]
                    exact hown6
                  go_roundw
                  case rel => exact ⟨k + st, false, false, ⟨#[]⟩, l ++ [wd.data.toList], A6, c6, by omega, by go_num, by simp, rfl, rfl, rfl, Nat.zero_le _, by simp; omega, hB6, hT6, Hn.out⟩
                  case measure => simp [intOf]; omega
              · have e2 : ((c0 : Int) == 32) = false := by rw [beq_eq_false_iff_ne]; omega
                have Hn := Lib.hid (by have := Hc.out; rw [if_neg (by decide), if_neg (by simp), if_neg c34, if_neg (fun h => c32 h.1)] at this; exact this.symm)
                clear Hc
                go_wp2_with fail
                refine (Rk.out _).mono ?_
                rintro e w' ⟨rfl, rfl⟩
                go_wp2_with fail
                go_roundw
                case rel => exact ⟨k + st, false, false, wd ++ s.extract k (k + st), l, A, c, by omega, by go_num, rfl, rfl, rfl, rfl, by rw [Hws.out]; omega, by omega, hB, hT, Hn.out⟩
                case measure => simp [intOf]; omega
          · by_cases c92 : c0 = 92
            · subst c92
              have Hn := Lib.hid (by have := Hc.out; rw [if_neg (by decide), if_pos (by decide)] at this; exact this.symm)
              clear Hc
              go_wp2_with fail
              refine (Rk.out _).mono ?_
              rintro e w' ⟨rfl, rfl⟩
              go_wp2_with fail
              go_roundw
              case rel => exact ⟨k + st, true, true, wd ++ s.extract k (k + st), l, A, c, by omega, by go_num, rfl, rfl, rfl, rfl, by rw [Hws.out]; omega, by omega, hB, hT, Hn.out⟩
              case measure => simp [intOf]; omega
            · have e1 : ((c0 : Int) == 92) = false := by rw [beq_eq_false_iff_ne]; omega
              by_cases c34 : c0 = 34
              · subst c34
                have Hn := Lib.hid (by have := Hc.out; rw [if_neg (by decide), if_neg (by decide), if_pos rfl] at this; exact this.symm)
                clear Hc
                go_wp2_with fail
                refine (Rk.out _).mono ?_
                rintro e w' ⟨rfl, rfl⟩
                go_wp2_with fail
                go_roundw
                case rel => exact ⟨k + st, false, false, wd ++ s.extract k (k + st), l, A, c, by omega, by go_num, rfl, rfl, rfl, rfl, by rw [Hws.out]; omega, by omega, hB, hT, Hn.out⟩
                case measure => simp [intOf]; omega
              · have e2 : ((c0 : Int) == 34) = false := by rw [beq_eq_false_iff_ne]; omega
                have Hn := Lib.hid (by have := Hc.out; rw [if_neg (by decide), if_neg (fun h => c92 h.2), if_neg c34, if_neg (by simp)] at this; exact this.symm)
                clear Hc
                by_cases c32 : c0 = 32
                · subst c32
                  go_wp2_with fail
                  refine (Rk.out _).mono ?_
                  rintro e w' ⟨rfl, rfl⟩
                  go_wp2_with fail
                  go_roundw
                  case rel => exact ⟨k + st, true, false, wd ++ s.extract k (k + st), l, A, c, by omega, by go_num, rfl, rfl, rfl, rfl, by rw [Hws.out]; omega, by omega, hB, hT, Hn.out⟩
                  case measure => simp [intOf]; omega
                · have e3 : ((c0 : Int) == 32) = false := by rw [beq_eq_false_iff_ne]; omega
                  go_wp2_with fail
                  refine (Rk.out _).mono ?_
                  rintro e w' ⟨rfl, rfl⟩
                  go_wp2_with fail
                  go_roundw
                  case rel => exact ⟨k + st, true, false, wd ++ s.extract k (k + st), l, A, c, by omega, by go_num, rfl, rfl, rfl, rfl, by rw [Hws.out]; omega, by omega, hB, hT, Hn.out⟩
                  case measure => simp [intOf]; omega
        · have Hn := Lib.hid (by have := Hc.out; rw [if_pos rfl] at this; exact this.symm)
          clear Hc
          cases q
          · go_wp2_with fail
            refine (Rk.out _).mono ?_
            rintro e w' ⟨rfl, rfl⟩
            go_wp2_with fail
            go_roundw
            case rel => exact ⟨k + st, false, false, wd ++ s.extract k (k + st), l, A, c, by omega, by go_num, rfl, rfl, rfl, rfl, by rw [Hws.out]; omega, by omega, hB, hT, Hn.out⟩
            case measure => simp [intOf]; omega
          · go_wp2_with fail
            refine (Rk.out _).mono ?_
            rintro e w' ⟨rfl, rfl⟩
            go_wp2_with fail
            go_roundw
            case rel => exact ⟨k + st, true, false, wd ++ s.extract k (k + st), l, A, c, by omega, by go_num, rfl, rfl, rfl, rfl, by rw [Hws.out]; omega, by omega, hB, hT, Hn.out⟩
            case measure => simp [intOf]; omega
    · have hres : Hid (wordsB s.data.toList = wordsEnd q wd.data.toList l) := Lib.hid (by rw [← Hz.out, List.drop_of_length_le (by rw [size_list]; omega)]; rfl)
      clear Hz R
      cases q
      · by_cases hwd : wd.data.toList = []
        · have hres2 : Hid (wordsB s.data.toList = none) := Lib.hid (by rw [hres.out]; exact if_pos (.inr hwd))
          have hw1 : (wd.toList == []) = true := by rw [Go.ByteArray.toList_eq, hwd]; rfl
          have hw2 : wd.toList = [] := by rw [Go.ByteArray.toList_eq, hwd]
          clear hres hwd
          go_wp2
          go_ret2
          rw [hres2.out]
          exact GivesW.none_ hB
        · have hres2 : Hid (wordsB s.data.toList = some (l ++ [wd.data.toList])) := Lib.hid (by rw [hres.out]; exact if_neg (fun h => h.elim (by decide) hwd))
          have hw1 : (wd.toList == []) = false := by rw [Go.ByteArray.toList_eq, beq_eq_false_iff_ne]; exact hwd
          have hw2 : ¬ wd.toList = [] := by rw [Go.ByteArray.toList_eq]; exact hwd
          clear hres hwd
          obtain ⟨hi0, hz0, hz1, hz2⟩ := Hi.out
          have hnews := cell_one_new wr (.string wd) 9
          have hge := row_lt hT
          go_wp2_with (at_builtin; go_loud (refine wpList_append_own_at _ rfl (.tmp 63) (.tmp 65) 31 rfl w.heap.size 9 i0 (.string ⟨#[]⟩) 1 16 Try.underlying31 hi0 hz0 hz1 hz2 rfl (by omega) (.slice A l.length c) l.length (l.map textV) rfl (World.ownsRow.alloc hT _) ⟨wr.heap.size, 0, none⟩ 1 1 [.string wd] rfl rfl hnews (by simp [Value.oneCell']) (by simp only [maxLen]; omega) (by omega) (by have := hB.size; simp; omega) ?_); intro v' w6 hown6 hgrow _ hat)
          obtain ⟨A6, c6, rfl⟩ := row_form hown6
          rw [ownBlock_slice] at hgrow
          have hB6 := (hB.alloc hB.size _).grown hgrow (by have := hB.size; simp; omega) (fun k hk => hge k hk)
          have hT6 : Texts w6 w.heap.size A6 (l ++ [wd.data.toList]).length c6 (l ++ [wd.data.toList]) := by
            unfold Texts
            rw [List.map_append, List.map_singleton, textV_of, List.length_append, List.length_singleton]
            exact hown6
          go_ret2
          rw [hres2.out]
          exact ⟨A6, c6, by simp, hT6, hB6⟩
      · have hres2 : Hid (wordsB s.data.toList = none) := Lib.hid (by rw [hres.out]; exact if_pos (.inl rfl))
        clear hres
        go_wp2
        go_ret2
        rw [hres2.out]
        exact GivesW.none_ hB

end Go.Proofs.Ytcfmokhiibhfhaa

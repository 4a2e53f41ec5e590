/-
  What the document's own answers for layer 4 come to: the text of a quoted form.
-/
import Derived.Test.YtcfmokhiibhfhaaTextR3
import Derived.Test.YtcfmokhiibhfhaaTextU
import Derived.Deep.QuietTactic
import Derived.Deep.DeepCutAuto
namespace Go.Proofs.Ytcfmokhiibhfhaa
open Go.RowKit

theorem value_any (c : Nat) (w : World) :
    Calls Try.prog 30 #[.int .u8 c] w fun e w' => e = .returned (.int .u8 (hexV c : Int)) ∧ w = w' := by
  by_cases h1 : 48 ≤ c ∧ c ≤ 57
  · have hr : (hexV c : Int) = (c : Int) - 48 := by unfold hexV; rw [if_pos h1]; omega
    rw [hr]
    obtain ⟨h2, h3⟩ := h1
    go_enter Try.func30, Try.ntmps30
    go_wp2
    go_ret
    exact ⟨rfl, rfl⟩
  · by_cases h2 : 97 ≤ c ∧ c ≤ 102
    · have hr : (hexV c : Int) = (c : Int) - 97 + 10 := by unfold hexV; rw [if_neg h1, if_pos h2]; omega
      rw [hr]
      obtain ⟨h2, h3⟩ := h2
      clear h1
      go_enter Try.func30, Try.ntmps30
      go_wp2
      go_ret
      exact ⟨rfl, rfl⟩
    · have hr : (hexV c : Int) = 16 := by unfold hexV; rw [if_neg h1, if_neg h2]; rfl
      rw [hr]
      rcases (show c < 48 ∨ (57 < c ∧ c < 97) ∨ 102 < c by omega) with h | ⟨h, h'⟩ | h
      all_goals
        clear h1 h2
        go_enter Try.func30, Try.ntmps30
        go_wp2
        go_ret
        exact ⟨rfl, rfl⟩

/-- What is answered of a quoted form. -/
def unqR (Q : List UInt8) : Value := match unqB Q with
  | none => .tuple #[.string ⟨#[]⟩, .bool false]
  | some x => .tuple #[.string ⟨x.toArray⟩, .bool true]
theorem unqR_none {Q : List UInt8} (h : unqB Q = none) : unqR Q = .tuple #[.string ⟨#[]⟩, .bool false] := by unfold unqR; rw [h]
theorem unqR_some {Q X : List UInt8} (h : unqB Q = some X) : unqR Q = .tuple #[.string ⟨X.toArray⟩, .bool true] := by unfold unqR; rw [h]
def UnqInv (w : World) (Q : List UInt8) (m : Nat) (e : TypeId) (x i : Value) (W : World) : Prop :=
  ∃ (j : Nat) (X : List UInt8) (A : Option Addr) (c : Nat), j ≤ m ∧ i = .int .i64 ((j : Int) + 1) ∧ x = .slice A X.length c ∧ Below w.heap.size w W ∧ Own W w.heap.size e A X.length c X ∧ X.length ≤ j ∧ scanB (mid Q) = (scanB ((mid Q).drop j)).map (X ++ ·)

set_option maxRecDepth 100000 in
set_option maxHeartbeats 4000000 in
theorem runq_any (s : ByteArray) (w : World) (hs : s.size ≤ 1000000000) :
    Calls Try.prog 17 #[.string s] w fun e w' => e = .returned (unqR s.data.toList) ∧ Below w.heap.size w w' := by
  have HSL := Lib.hid (size_list s)
  by_cases h2 : 2 ≤ s.size
  · obtain ⟨m, hm⟩ : ∃ m, s.size = m + 2 := ⟨s.size - 2, by omega⟩
    have i0 : 0 < s.size := by omega
    have i1 : m + 1 < s.size := by omega
    have hb0 := Lib.hid (bt_get s 0 i0)
    have hb1 := Lib.hid (bt_get s (m + 1) i1)
    by_cases hq0 : s[0].toNat = 34
    · by_cases hq1 : s[m + 1].toNat = 34
      · have Hok : Hid (2 ≤ s.data.toList.length ∧ bt s.data.toList 0 = 34 ∧ bt s.data.toList (s.data.toList.length - 1) = 34) := Lib.hid (by
          rw [HSL.out, hb0.out, hm, show m + 2 - 1 = m + 1 by omega, hb1.out]; exact ⟨by omega, hq0, hq1⟩)
        have Hml : Hid ((mid s.data.toList).length = m) := Lib.hid (by rw [mid_length, HSL.out, hm]; omega)
        have Hmb := Lib.hid (fun j (h : j < m) => (mid_bt (Q := s.data.toList) (j := j) (by rw [HSL.out, hm]; omega)).trans (bt_get s (j + 1) (by omega)))
        have HQ := Lib.hid (fun x (hx : x.size ≤ 1000000000) w => rquote_any x w hx)
        clear hb0 hb1 h2
        go_enter Try.func17, Try.ntmps17
        go_wp2_with fail
        go_loopw [4, 5, 6] (fun x i _ W => UnqInv w s.data.toList m 5 x i W) (fun _ i _ _ => m + 1 - (intOf i).toNat)
        case atStart => exact ⟨0, [], none, 0, Nat.zero_le _, rfl, rfl, Below.refl _ _, Own.nil _ _ _, Nat.le_refl _, by rw [List.drop_zero]; simp⟩
        case round =>
          obtain ⟨j, X, A, c, hj, rfl, rfl, hB, hown, hXj, hz⟩ := hrel
          have Hz := Lib.hid hz
          clear hz hq0 hq1
          by_cases hjm : j < m
          · have i2 : j + 1 < s.size := by omega
            obtain ⟨c0, hc0⟩ : ∃ c0, s[j + 1].toNat = c0 := ⟨_, rfl⟩
            have hlt0 : c0 < 256 := by rw [← hc0]; exact s[j + 1].toNat_lt
            have B0 : Hid (bt (mid s.data.toList) j = c0) := Lib.hid (by rw [Hmb.out j hjm, hc0])
            by_cases h34 : c0 = 34
            · subst h34
              have hres := Lib.hid (unqR_none (unq_none Hok.out (scan_stop Hz.out (sc_quote (by rw [Hml.out]; exact hjm) B0.out))))
              clear Hz Hmb Hml Hok
              go_wp2
              go_ret2
              exact ⟨by rw [hres.out]; rfl, hB⟩
            · by_cases h92 : c0 = 92
              · subst h92
                by_cases hj1 : j + 1 < m
                · have i3 : j + 1 + 1 < s.size := by omega
                  obtain ⟨d, hd⟩ : ∃ d, s[j + 1 + 1].toNat = d := ⟨_, rfl⟩
                  have hltd : d < 256 := by rw [← hd]; exact s[j + 1 + 1].toNat_lt
                  have B1 : Hid (bt (mid s.data.toList) (j + 1) = d) := Lib.hid (by rw [Hmb.out (j + 1) hj1, hd])
                  by_cases hesc : d = 34 ∨ d = 92
                  · rcases hesc with rfl | rfl
                    · obtain ⟨a, ha⟩ : ∃ a : UInt8, a = UInt8.ofNat 34 := ⟨_, rfl⟩
                      have Ha : Hid ((a.toNat : Int) = 34) := Lib.hid (by rw [ha]; rfl)
                      have Hn : Hid (scanB (mid s.data.toList) = (scanB ((mid s.data.toList).drop (j + 2))).map (X ++ [a] ++ ·)) := Lib.hid (scan_go Hz.out (by
                        rw [ha]
                        have := sc_esc (M := mid s.data.toList) (j := j) B0.out (by rw [Hml.out]; exact hj1) (by rw [B1.out]; exact .inl rfl)
                        rw [B1.out] at this
                        exact this))
                      clear ha Hz Hmb Hml Hok
                      have hbs : Bs (wr.alloc (.cells #[.int .u8 34] 5)) (some ⟨wr.heap.size, 0, none⟩) 1 1 [a] := bs_lit wr [a] _ _ (by rw [← Ha.out]; rfl) (by simp [maxLen])
                      have hBa : Below w.heap.size w (wr.alloc (.cells #[.int .u8 34] 5)) := hB.alloc hB.size _
                      go_wp2_with (at_builtin; go_loud (refine wpList_app _ rfl (.tmp 83) (.tmp 85) 45 rfl w.heap.size 5 Try.underlying45 byte_info A X.length c X rfl (hown.alloc _) (some ⟨wr.heap.size, 0, none⟩) 1 1 _ rfl hbs (by omega) hBa.size ?_); intro A4 c4 w4 hown4 hb4)
                      go_roundw
                      case rel =>
                        refine ⟨j + 2, X ++ [a], A4, c4, by omega, by go_num, ?_, hBa.trans hb4, ?_, by simp; omega, Hn.out⟩
                        · rw [List.length_append]; rfl
                        · rw [List.length_append]; exact hown4
                      case measure => simp [intOf]; omega
                    · obtain ⟨a, ha⟩ : ∃ a : UInt8, a = UInt8.ofNat 92 := ⟨_, rfl⟩
                      have Ha : Hid ((a.toNat : Int) = 92) := Lib.hid (by rw [ha]; rfl)
                      have Hn : Hid (scanB (mid s.data.toList) = (scanB ((mid s.data.toList).drop (j + 2))).map (X ++ [a] ++ ·)) := Lib.hid (scan_go Hz.out (by
                        rw [ha]
                        have := sc_esc (M := mid s.data.toList) (j := j) B0.out (by rw [Hml.out]; exact hj1) (by rw [B1.out]; exact .inr rfl)
                        rw [B1.out] at this
                        exact this))
                      clear ha Hz Hmb Hml Hok
                      have hbs : Bs (wr.alloc (.cells #[.int .u8 92] 5)) (some ⟨wr.heap.size, 0, none⟩) 1 1 [a] := bs_lit wr [a] _ _ (by rw [← Ha.out]; rfl) (by simp [maxLen])
                      have hBa : Below w.heap.size w (wr.alloc (.cells #[.int .u8 92] 5)) := hB.alloc hB.size _
                      go_wp2_with (at_builtin; go_loud (refine wpList_app _ rfl (.tmp 83) (.tmp 85) 45 rfl w.heap.size 5 Try.underlying45 byte_info A X.length c X rfl (hown.alloc _) (some ⟨wr.heap.size, 0, none⟩) 1 1 _ rfl hbs (by omega) hBa.size ?_); intro A4 c4 w4 hown4 hb4)
                      go_roundw
                      case rel =>
                        refine ⟨j + 2, X ++ [a], A4, c4, by omega, by go_num, ?_, hBa.trans hb4, ?_, by simp; omega, Hn.out⟩
                        · rw [List.length_append]; rfl
                        · rw [List.length_append]; exact hown4
                      case measure => simp [intOf]; omega
                  · have e1 : ((d : Int) != 34) = true := by rw [bne_iff_ne]; omega
                    have e2 : ((d : Int) != 92) = true := by rw [bne_iff_ne]; omega
                    have Hesc : Hid (¬ (bt (mid s.data.toList) (j + 1) = 34 ∨ bt (mid s.data.toList) (j + 1) = 92)) := Lib.hid (by rw [B1.out]; exact hesc)
                    clear hesc
                    by_cases hj2 : j + 2 < m
                    · have i4 : j + 1 + 1 + 1 < s.size := by omega
                      obtain ⟨d2, hd2⟩ : ∃ d2, s[j + 1 + 1 + 1].toNat = d2 := ⟨_, rfl⟩
                      have B2 : Hid (bt (mid s.data.toList) (j + 2) = d2) := Lib.hid (by rw [Hmb.out (j + 2) hj2, hd2])
                      have V1 := Lib.hid (fun w => value_any d w)
                      have V2 := Lib.hid (fun w => value_any d2 w)
                      have Hhex := Lib.hid (fun h4 => sc_hex (M := mid s.data.toList) (j := j) B0.out (by rw [Hml.out]; exact hj2) Hesc.out (by rw [B1.out, B2.out]; exact h4))
                      have Hbad := Lib.hid (fun h4 => sc_bad (M := mid s.data.toList) (j := j) B0.out (by rw [Hml.out]; exact hj2) Hesc.out (by rw [B1.out, B2.out]; exact h4))
                      rw [B1.out, B2.out] at Hhex
                      by_cases hv1 : hexV d ≤ 15
                      · by_cases hv2 : hexV d2 ≤ 15
                        · obtain ⟨a, ha⟩ : ∃ a : UInt8, a = UInt8.ofNat (16 * hexV d + hexV d2) := ⟨_, rfl⟩
                          have Ha : Hid ((a.toNat : Int) = (16 * (hexV d : Int) + hexV s[j + 1 + 1 + 1].toNat) % 256) := Lib.hid (by rw [hd2, ha, UInt8.toNat_ofNat']; simp only [Nat.reducePow]; omega)
                          have Hn : Hid (scanB (mid s.data.toList) = (scanB ((mid s.data.toList).drop (j + 3))).map (X ++ [a] ++ ·)) := Lib.hid (scan_go Hz.out (by rw [ha]; exact Hhex.out ⟨hv1, hv2⟩))
                          clear ha Hz Hmb Hml Hok Hhex Hbad
                          have hw1 : IntKind.u8.wrap (16 * (hexV d : Int)) = 16 * (hexV d : Int) := by rw [IntKind.wrap_u8]; omega
                          have hw2 : IntKind.u8.wrap (16 * (hexV d : Int) + hexV d2) = 16 * (hexV d : Int) + hexV d2 := by rw [IntKind.wrap_u8]; omega
                          have hw3 : IntKind.i64.wrap ((j : Int) + 1 + 1 + 1) = (j : Int) + 1 + 1 + 1 := IntWalk.i64_in _ (by omega)
                          go_wp2_with fail
                          refine (V1.out _).mono ?_
                          rintro e w' ⟨rfl, rfl⟩
                          go_wp2_with fail
                          refine (V2.out _).mono ?_
                          rintro e w' ⟨rfl, rfl⟩
                          go_upto_region 18 with fail
                          go_quiet ((go_at_call 30; exact Calls.quiet_of_same ((value_any _ _).mono fun _ _ h => ⟨h.1, h.2.symm⟩)))
                          replace hB : Below w.heap.size w (wr.drewN nq) := below_drewN hB nq
                          replace hown : Own (wr.drewN nq) w.heap.size 5 A X.length c X := hown
                          generalize wr.drewN nq = wz at *
                          have hbs : Bs (wz.alloc (.cells #[.int .u8 ((16 * (hexV d : Int) + hexV s[j + 1 + 1 + 1].toNat) % 256)] 5)) (some ⟨wz.heap.size, 0, none⟩) 1 1 [a] := bs_lit wz [a] _ _ (by rw [← Ha.out]; rfl) (by simp [maxLen])
                          have hBa : Below w.heap.size w (wz.alloc (.cells #[.int .u8 ((16 * (hexV d : Int) + hexV s[j + 1 + 1 + 1].toNat) % 256)] 5)) := hB.alloc hB.size _
                          go_wp2_with (at_builtin; go_loud (refine wpList_app _ rfl (.tmp 83) (.tmp 85) 45 rfl w.heap.size 5 Try.underlying45 byte_info A X.length c X rfl (hown.alloc _) (some ⟨wz.heap.size, 0, none⟩) 1 1 _ rfl hbs (by omega) hBa.size ?_); intro A4 c4 w4 hown4 hb4)
                          go_roundw
                          case rel =>
                            refine ⟨j + 3, X ++ [a], A4, c4, by omega, by go_num, ?_, hBa.trans hb4, ?_, by simp; omega, Hn.out⟩
                            · rw [List.length_append]; rfl
                            · rw [List.length_append]; exact hown4
                          case measure => simp [intOf]; omega
                        · have hres := Lib.hid (unqR_none (unq_none Hok.out (scan_stop Hz.out (Hbad.out fun h => hv2 h.2))))
                          clear Hz Hmb Hml Hok
                          go_wp2_with fail
                          refine (V1.out _).mono ?_
                          rintro e w' ⟨rfl, rfl⟩
                          go_wp2_with fail
                          refine (V2.out _).mono ?_
                          rintro e w' ⟨rfl, rfl⟩
                          go_wp2
                          go_ret2
                          exact ⟨by rw [hres.out]; rfl, hB⟩
                      · have hres := Lib.hid (unqR_none (unq_none Hok.out (scan_stop Hz.out (Hbad.out fun h => hv1 h.1))))
                        clear Hz Hmb Hml Hok
                        go_wp2_with fail
                        refine (V1.out _).mono ?_
                        rintro e w' ⟨rfl, rfl⟩
                        go_wp2
                        go_ret2
                        exact ⟨by rw [hres.out]; rfl, hB⟩
                    · have hres := Lib.hid (unqR_none (unq_none Hok.out (scan_stop Hz.out (sc_short B0.out (by rw [Hml.out]; exact hj1) Hesc.out (by rw [Hml.out]; exact hj2)))))
                      clear Hz Hmb Hml Hok
                      go_wp2
                      go_ret2
                      exact ⟨by rw [hres.out]; rfl, hB⟩
                · have hres := Lib.hid (unqR_none (unq_none Hok.out (scan_stop Hz.out (sc_end (by rw [Hml.out]; exact hjm) B0.out (by rw [Hml.out]; exact hj1)))))
                  clear Hz Hmb Hml Hok
                  go_wp2
                  go_ret2
                  exact ⟨by rw [hres.out]; rfl, hB⟩
              · obtain ⟨a, ha⟩ : ∃ a : UInt8, a = UInt8.ofNat c0 := ⟨_, rfl⟩
                have Ha : Hid (a.toNat = c0) := Lib.hid (by rw [ha, UInt8.toNat_ofNat']; simp only [Nat.reducePow]; omega)
                have Hn : Hid (scanB (mid s.data.toList) = (scanB ((mid s.data.toList).drop (j + 1))).map (X ++ [a] ++ ·)) := Lib.hid (scan_go Hz.out (by
                  rw [ha]
                  have := sc_plain (M := mid s.data.toList) (j := j) (by rw [Hml.out]; exact hjm) (by rw [B0.out]; exact h34) (by rw [B0.out]; exact h92)
                  rw [B0.out] at this
                  exact this))
                have e1 : ((c0 : Int) == 34) = false := by rw [beq_eq_false_iff_ne]; omega
                have e2 : ((c0 : Int) == 92) = false := by rw [beq_eq_false_iff_ne]; omega
                clear ha Hz Hmb Hml Hok
                have hbs : Bs (wr.alloc (.cells #[.int .u8 (c0 : Int)] 5)) (some ⟨wr.heap.size, 0, none⟩) 1 1 [a] := bs_lit wr [a] _ _ (by rw [← Ha.out]; rfl) (by simp [maxLen])
                have hBa : Below w.heap.size w (wr.alloc (.cells #[.int .u8 (c0 : Int)] 5)) := hB.alloc hB.size _
                go_wp2_with (at_builtin; go_loud (refine wpList_app _ rfl (.tmp 83) (.tmp 85) 45 rfl w.heap.size 5 Try.underlying45 byte_info A X.length c X rfl (hown.alloc _) (some ⟨wr.heap.size, 0, none⟩) 1 1 _ rfl hbs (by omega) hBa.size ?_); intro A4 c4 w4 hown4 hb4)
                go_roundw
                case rel =>
                  refine ⟨j + 1, X ++ [a], A4, c4, by omega, by go_num, ?_, hBa.trans hb4, ?_, by simp; omega, Hn.out⟩
                  · rw [List.length_append]; rfl
                  · rw [List.length_append]; exact hown4
                case measure => simp [intOf]; omega
          · obtain rfl : j = m := by omega
            have hsc : scanB (mid s.data.toList) = some X := by
              have := Hz.out
              rw [List.drop_of_length_le (by rw [Hml.out]; exact Nat.le_refl _), show scanB [] = some [] from by rw [scanB.eq_def]] at this
              simpa using this
            have hun := Lib.hid (unq_some Hok.out hsc)
            have hstr := str_of hown.bs
            have HQX := Lib.hid (fun w => by have := HQ.out ⟨X.toArray⟩ (by show X.toArray.size ≤ _; rw [List.size_toArray]; omega) w; rwa [show (⟨X.toArray⟩ : ByteArray).data.toList = X from rfl] at this)
            clear Hz Hmb Hml Hok HQ hsc
            by_cases hqx : quoteB X = s.data.toList
            · have hcmp : (quoteB X == s.toList) = true := by rw [Go.ByteArray.toList_eq, beq_iff_eq]; exact hqx
              have hres := Lib.hid (unqR_some (by rw [hun.out, if_pos hqx]))
              clear hqx hun
              go_wp2_with fail
              refine (HQX.out _).mono ?_
              rintro e w5 ⟨rfl, hb5⟩
              have hstr5 := str_of (hown.bs.below hb5)
              go_wp2
              go_ret2
              exact ⟨by rw [hres.out]; rfl, hB.trans (hb5.mono hB.size)⟩
            · have hcmp : (quoteB X == s.toList) = false := by rw [Go.ByteArray.toList_eq, beq_eq_false_iff_ne]; exact hqx
              have hres := Lib.hid (unqR_none (by rw [hun.out, if_neg hqx]))
              clear hqx hun
              go_wp2_with fail
              refine (HQX.out _).mono ?_
              rintro e w5 ⟨rfl, hb5⟩
              go_wp2
              go_ret2
              exact ⟨by rw [hres.out]; rfl, hB.trans (hb5.mono hB.size)⟩
      · have hres := Lib.hid (unqR_none (unq_out (Q := s.data.toList) (by rw [HSL.out, hm, show m + 2 - 1 = m + 1 by omega, hb1.out]; exact fun h => hq1 h.2.2)))
        have e1 : ((s[m + 1].toNat : Int) != 34) = true := by rw [bne_iff_ne]; omega
        clear hb0 hb1 h2
        go_enter Try.func17, Try.ntmps17
        go_wp2
        go_ret2
        exact ⟨by rw [hres.out]; rfl, Below.refl _ _⟩
    · have hres := Lib.hid (unqR_none (unq_out (Q := s.data.toList) (by rw [hb0.out]; exact fun h => hq0 h.2.1)))
      have e1 : ((s[0].toNat : Int) != 34) = true := by rw [bne_iff_ne]; omega
      clear hb0 hb1 h2
      go_enter Try.func17, Try.ntmps17
      go_wp2
      go_ret2
      exact ⟨by rw [hres.out]; rfl, Below.refl _ _⟩
  · have hres := Lib.hid (unqR_none (unq_out (Q := s.data.toList) (by rw [HSL.out]; exact fun h => h2 h.1)))
    go_enter Try.func17, Try.ntmps17
    go_wp2
    go_ret2
    exact ⟨by rw [hres.out]; rfl, Below.refl _ _⟩

end Go.Proofs.Ytcfmokhiibhfhaa

/-
  What the functions of package train come to: Split; all of them in one.
-/
import Derived.Test.YtkfinkmbdpdepaaTrainH
import Derived.Test.YtkfinkmbdpdepaaTrainI
namespace Go.Proofs.Ytkfinkmbdpdepaa
open Go.RowKit
set_option linter.unusedVariables false
set_option linter.unusedSimpArgs false

theorem SplitAt.first {s t : List UInt8} {k : Nat} {L : List (List UInt8)} (h : SplitAt s k L) (hk : k < s.length) (ht : s.drop k = t) :
    (fcarE t ≠ 0 → splitF s.length s = (fcarE t, [])) ∧ (fcarE t = 0 → SplitAt s (k + fcarN t) (L ++ [t.take (fcarN t)]) ∧ 4 ≤ fcarN t ∧ fcarN t ≤ t.length) := by
  obtain ⟨S1, S5, SO⟩ := h.step hk ht
  have hN : fcarE t = 0 → fcarN t = cmN t := fun h => if_pos h
  by_cases h1 : cmE t ≠ 0
  · have e : fcarE t = cmE t := if_pos h1
    refine ⟨fun _ => by rw [e]; exact S1 h1, fun h0 => absurd h0 (by rw [e]; exact h1)⟩
  · have h1' : cmE t = 0 := by omega
    have c := car_take h1'
    by_cases h2 : (readCm t).pad = true ∧ cmN t < t.length
    · have e : fcarE t = 5 := by unfold fcarE; rw [if_neg h1, if_pos h2]
      refine ⟨fun _ => by rw [e]; exact S5 h1' h2.1 h2.2, fun h0 => by omega⟩
    · have e : fcarE t = openE (t.take (cmN t)) := by unfold fcarE; rw [if_neg h1, if_neg h2]
      obtain ⟨o1, o2⟩ := SO h1' h2
      refine ⟨fun h0 => by rw [e] at h0 ⊢; exact o1 h0, fun h0 => ?_⟩
      rw [hN h0]
      exact ⟨o2 (by rw [← e]; exact h0), c.2.2.2.1, c.2.2.2.2.1⟩

set_option maxRecDepth 100000 in
set_option maxHeartbeats 4000000 in
theorem tr_split (A : Option Addr) (n c : Nat) (s : List UInt8) (w : World) (hs : Bs w A n c s) (hn : n ≤ 1000000) :
    Calls Try.prog 12 #[.slice A n c] w (GivesLs w (splitL s) (splitE s)) := by
  have hl := hs.len
  by_cases h0 : n = 0
  · subst h0
    obtain rfl : s = [] := List.eq_nil_of_length_eq_zero hl
    clear hl hs
    go_enter Try.func12, Try.ntmps12
    go_wp2
    go_ret2
    exact ⟨none, 0, 0, rfl, Bls.nil _, Below.refl _ _⟩
  · have hne : s ≠ [] := fun e => by rw [e] at hl; exact h0 hl.symm
    have HE : Hid (splitE s = (splitF s.length s).1) := Lib.hid (if_neg hne)
    have HL : Hid (splitL s = (splitF s.length s).2) := Lib.hid (if_neg hne)
    generalize splitE s = E at *
    generalize splitL s = L at *
    have g0 : ((n : Int) == 0) = false := by rw [beq_eq_false_iff_ne]; omega
    clear hne
    go_enter Try.func12, Try.ntmps12
    go_wp2_with fail
    go_loopw [0, 4] (fun b v W => ∃ (k m : Nat) (A9 : Option Addr) (c9 : Nat) (B : Option Addr) (d : Nat) (es : List Lp), k ≤ n ∧ m ≤ k ∧ b = .slice A9 (n - k) c9 ∧ v = .slice B m d ∧ Bs w A9 (n - k) c9 (s.drop k) ∧ OwnL W w.heap.size B m d es ∧ Hid (SplitAt s k (es.map Lp.s)) ∧ Below w.heap.size w W) (fun b _ _ => match b with | .slice _ q _ => q | _ => 0)
    case atStart => exact ⟨0, 0, A, c, none, 0, [], Nat.zero_le _, Nat.le_refl _, rfl, rfl, by simpa using hs, OwnL.nil _ _, Lib.hid (SplitAt.start s), Below.refl _ _⟩
    case round =>
      obtain ⟨k, m, A9, c9, B, d, es, hk, hmk, rfl, rfl, hb9, hown, hsp, hB⟩ := hrel
      by_cases hkn : k < n
      · have hkn2 : (0 : Int) < ((n - k : Nat) : Int) := by omega
        have hkn3 : 0 < n - k := by omega
        obtain ⟨t, ht⟩ : ∃ t, s.drop k = t := ⟨_, rfl⟩
        obtain ⟨F1, F2⟩ := hsp.out.first (by omega) ht
        have ht0 := Lib.hid ht
        rw [ht] at hb9
        have htl := hb9.len
        have HR := Lib.hid (fun W h => tr_first A9 (n - k) c9 t W h)
        have HF1 := Lib.hid F1
        have HF2 := Lib.hid F2
        clear F1 F2 ht
        generalize fcarE t = e1 at *
        generalize fcarN t = N at *
        generalize hq : n - k = q at *
        go_wp2_with fail
        refine (HR.out _ (hb9.below hB)).mono ?_
        rintro x w2 ⟨rfl, hb⟩
        have hB2 := hB.trans (hb.mono hB.size)
        have hown2 := hown.below hb
        clear hb
        by_cases he1 : e1 = 0
        · subst he1
          obtain ⟨hsp2, hN4, hNl⟩ := HF2.out rfl
          rw [htl] at hNl
          obtain ⟨A1, c1, hsl, hY⟩ := hb9.slice_r Try.underlying22 byte_size (r := N) hNl
          have hsl2 := fun W => hsl W (N : Int) rfl
          obtain ⟨A3, c3, hsl3, hZ⟩ := hb9.slice_l Try.underlying22 byte_size (a := N) hNl
          have hsl4 := fun W => hsl3 W (N : Int) rfl
          clear hsl hsl3
          have hyl := Lib.hid hY.len
          have hC := Lib.hid (fun W h => clone_any A1 N c1 (t.take N) W h (by omega))
          go_wp2_with fail
          refine (hC.out _ (hY.below hB2)).mono ?_
          rintro e w7 ⟨A7, c7, rfl, hown7, hb7⟩
          rw [hyl.out] at hown7 ⊢
          have hB7 := hB2.trans (hb7.mono hB2.size)
          have hwn7 := hown2.below hb7
          have hrow : 0 < N → rowOf A7 ≠ rowOf B := fun hp e => by
            obtain ⟨g, e1, e2, _⟩ := hown7.form hp
            rw [e1] at e
            have h3 := rowV_lt hown2.1 g (by rw [← e]; rfl)
            omega
          go_wp2_with (at_builtin; go_loud (refine wpList_appK rfl (.tmp 21) (.tmp 26) 37 rfl w.heap.size 22 _ 1 24 Try.underlying37 info_bs rfl (by omega) B m d _ rfl (rowK_alloc hwn7.1 _) _ 1 1 (lpC ⟨A7, N, c7, t.take N⟩) rfl rfl (newLp w7 ⟨A7, N, c7, t.take N⟩ _) (lpC_one1 _) (by simp only [maxLen]; omega) (by omega) (by have := hB7.size; simp; omega) ?_; intro A8 c8 w8 hown8 hgr8 hat8))
          have hg8 := OwnL.grown (x := ⟨A7, N, c7, t.take N⟩) (hwn7.alloc (.cells #[.slice A7 N c7] 22)) hgr8 hat8 hown8 (hown7.bs.alloc _) hrow
          have hB8 := (hB7.alloc hB7.size (.cells #[.slice A7 N c7] 22)).grown hgr8 (by have := hB7.size; simp; omega) (fun q hq => rowV_ge hwn7.1 q hq)
          rw [← ht0.out, List.drop_drop, show q - N = n - (k + N) by omega] at hZ
          go_roundw
          case rel => exact ⟨k + N, m + 1, A3, c3, A8, c8, _, by omega, by omega, by rw [show q - N = n - (k + N) by omega], rfl, hZ, hg8, Lib.hid (by rw [List.map_append]; exact hsp2), hB8⟩
          case measure => simp; omega
        · have hfin := HF1.out he1
          have hEz : E = e1 := by rw [HE.out, hfin]
          have hLz : L = [] := by rw [HL.out, hfin]
          subst hEz hLz
          have hne : ((E : Int) != 0) = true := by rw [bne_iff_ne]; omega
          go_wp2_with fail
          go_ret2
          exact ⟨none, 0, 0, rfl, Bls.nil _, hB2⟩
      · obtain rfl : k = n := by omega
        rw [Nat.sub_self] at *
        have hfin := SplitAt.done (s := s) (L := es.map Lp.s) (by rw [hl]; exact hsp.out)
        have hEz : E = 0 := by rw [HE.out, hfin]
        have hLz : L = es.map Lp.s := by rw [HL.out, hfin]
        clear hsp HE HL hfin
        subst hEz hLz
        go_wp2_with fail
        go_ret2
        exact ⟨B, m, d, rfl, hown.bls, hB⟩

theorem train_calls : TrainCalls where
  open_ := fun A n d s w h hn => tr_open A n d s w h hn
  close := fun k q A n d s tr w h hn => tr_close k q A n d s tr w h hn
  split := fun A n d s w h hn => tr_split A n d s w h hn

end Go.Proofs.Ytkfinkmbdpdepaa

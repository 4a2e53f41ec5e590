/-
  What the document's own answers for layer 11 come to: Split.
-/
import Derived.Test.YtkfinkmbdpdepaaTrainP
namespace Go.Proofs.Ytkfinkmbdpdepaa
open Go.RowKit
set_option linter.unusedVariables false
set_option linter.unusedSimpArgs false

set_option maxRecDepth 100000 in
set_option maxHeartbeats 8000000 in
theorem rsplit_any (A : Option Addr) (n c : Nat) (s : List UInt8) (w : World) (hs : Bs w A n c s) (hn : n ≤ 1000000) :
    Calls Try.prog 13 #[.slice A n c] w (GivesLs w (splitL s) (splitE s)) := by
  have hl := hs.len
  by_cases h0 : n = 0
  · subst h0
    obtain rfl : s = [] := List.eq_nil_of_length_eq_zero hl
    clear hl hs
    go_enter Try.func13, Try.ntmps13
    go_wp2
    go_ret2
    exact ⟨none, 0, 0, rfl, Bls.nil _, Below.refl _ _⟩
  · have hne : s ≠ [] := fun e => by rw [e] at hl; exact h0 hl.symm
    have HE : Hid (splitE s = (splitF s.length s).1) := Lib.hid (if_neg hne)
    have HL : Hid (splitL s = (splitF s.length s).2) := Lib.hid (if_neg hne)
    generalize splitE s = E at *
    generalize splitL s = L at *
    have g0 : ((n : Int) == 0) = false := by rw [beq_eq_false_iff_ne]; omega
    clear hne
    go_enter Try.func13, Try.ntmps13
    go_wp2_with fail
    go_loopw [4, 5] (fun v i W => ∃ (k m : Nat) (B : Option Addr) (d : Nat) (es : List Lp), k ≤ n ∧ m ≤ k ∧ i = .int .i64 k ∧ v = .slice B m d ∧ OwnL W w.heap.size B m d es ∧ Hid (SplitAt s k (es.map Lp.s)) ∧ Below w.heap.size w W) (fun _ i _ => n - (intOf i).toNat)
    case atStart => exact ⟨0, 0, none, 0, [], Nat.zero_le _, Nat.le_refl _, rfl, rfl, OwnL.nil _ _, Lib.hid (SplitAt.start s), Below.refl _ _⟩
    case round =>
      obtain ⟨k, m, B, d, es, hk, hmk, rfl, rfl, hown, hsp, hB⟩ := hrel
      by_cases hkn : k < n
      · have hkn2 : (k : Int) < n := by omega
        have hsw := hs.below hB
        obtain ⟨A9, c9, hsl9, hb9⟩ := hsw.slice_l Try.underlying22 byte_size (a := k) (by omega)
        have hsl9' := fun W => hsl9 W (k : Int) rfl
        clear hsl9
        obtain ⟨t, ht⟩ : ∃ t, s.drop k = t := ⟨_, rfl⟩
        obtain ⟨S1, S5, SO⟩ := hsp.out.step (by omega) ht
        have ht0 := Lib.hid ht
        rw [ht] at hb9
        have htl := hb9.len
        have HC := Lib.hid (fun h => car_take (t := t) h)
        have HR := Lib.hid (fun W h => rcread_any A9 (n - k) c9 t W h)
        replace S1 := Lib.hid S1
        replace S5 := Lib.hid S5
        replace SO := Lib.hid SO
        rw [htl] at S5 SO HC
        clear ht htl
        generalize cmN t = N at *
        generalize cmE t = e1 at *
        generalize readCm t = R at *
        obtain ⟨rp, rc, rt, rz⟩ := R
        dsimp only [cmW] at HR S5 SO HC
        go_wp2_with fail
        refine (HR.out _ hb9).mono ?_
        rintro x w2 ⟨rfl, hb⟩
        have hB2 := hB.trans (hb.mono hB.size)
        have hs2 := hsw.below hb
        have hown2 := hown.below hb
        clear hb hb9
        have k1 := Box.new w2 [.bool rp, .int .i64 rc, .int .i64 rt, .int .i64 rz] 25
        have hB3 := hB2.alloc hB2.size (.cells #[.bool rp, .int .i64 rc, .int .i64 rt, .int .i64 rz] 25)
        by_cases he1 : e1 = 0
        · subst he1
          obtain ⟨hc1, hc2, hc3, hc4, hc5, hc6⟩ := HC.out rfl
          subst hc3
          have f1 := k1.all4.1
          have hs3 := hs2.alloc (.cells #[.bool rp, .int .i64 rc, .int .i64 rt, .int .i64 (N : Int)] 25)
          have hown3 := hown2.alloc (.cells #[.bool rp, .int .i64 rc, .int .i64 rt, .int .i64 (N : Int)] 25)
          generalize hW : (w2.alloc (.cells #[.bool rp, .int .i64 rc, .int .i64 rt, .int .i64 (N : Int)] 25)) = w3 at *
          have k2 := k1.alloc (.cells #[] 5)
          have f2 := k2.all4.1
          obtain ⟨A1, c1, hsl, hY⟩ := hs3.slice_lr Try.underlying22 byte_size (a := k) (r := k + N) (by omega) (by omega)
          rw [show k + N - k = N by omega] at hsl hY
          rw [ht0.out] at hY
          have hsl2 := fun W => hsl W (k : Int) ((k : Int) + N) rfl (by omega)
          clear hsl
          have ew : IntKind.i64.wrap ((k : Int) + N) = (k : Int) + N := IntWalk.i64_in _ (by omega)
          have hlt3 : w2.heap.size < w3.heap.size := k1.2.2
          have hz3 := hB3.size
          by_cases hbad : rp = true ∧ N < n - k
          · obtain ⟨rfl, hlt⟩ := hbad
            have hfin := S5.out rfl rfl hlt
            have hEz : E = 5 := by rw [HE.out, hfin]
            have hLz : L = [] := by rw [HL.out, hfin]
            subst hEz hLz
            have hg : (k : Int) + N < n := by omega
            go_wp2_with (at_builtin; go_loud (refine wpList_app2 rfl (.tmp 26) (.tmp 33) 22 rfl w3.heap.size 5 Try.underlying22 byte_info (some ⟨w3.heap.size, 0, none⟩) 0 0 [] rfl (own_empty w3 _ _ (Nat.le_refl _)) A1 N c1 _ rfl (hY.alloc _) (by omega) (by simp) ?_; intro A6 c6 w6 hown6 hgr6 hat6; rw [Nat.zero_add] at hown6; rw [List.nil_append] at hown6; rw [Nat.zero_add]; have k6 := k2.grown hgr6 (by simp [rowOf]; omega); have f6 := k6.all4.1; have hB6 := (hB3.alloc hB3.size (.cells #[] 5)).grown hgr6 (by simp; omega) (fun q hq => by simp [rowOf] at hq; omega); have hB36 : Below w3.heap.size w3 w6 := (below1 w3 (.cells #[] 5)).grown hgr6 (by simp) (fun q hq => by simp [rowOf] at hq; omega)))
            go_ret2
            exact ⟨none, 0, 0, rfl, Bls.nil _, hB6⟩
          · have SO2 := SO.out rfl hbad
            cases rp
            · clear hbad
              go_wp2_with (at_builtin; go_loud (refine wpList_app2 rfl (.tmp 26) (.tmp 33) 22 rfl w3.heap.size 5 Try.underlying22 byte_info (some ⟨w3.heap.size, 0, none⟩) 0 0 [] rfl (own_empty w3 _ _ (Nat.le_refl _)) A1 N c1 _ rfl (hY.alloc _) (by omega) (by simp) ?_; intro A6 c6 w6 hown6 hgr6 hat6; rw [Nat.zero_add] at hown6; rw [List.nil_append] at hown6; rw [Nat.zero_add]; have k6 := k2.grown hgr6 (by simp [rowOf]; omega); have f6 := k6.all4.1; have hB6 := (hB3.alloc hB3.size (.cells #[] 5)).grown hgr6 (by simp; omega) (fun q hq => by simp [rowOf] at hq; omega); have hB36 : Below w3.heap.size w3 w6 := (below1 w3 (.cells #[] 5)).grown hgr6 (by simp) (fun q hq => by simp [rowOf] at hq; omega)))
              have hs6 := hB6.size
              have hO6 := ropen_any A6 N c6 _ w6 hown6.bs (by omega)
              have HO6 := Lib.hid hO6
              clear hO6 f1 f2 f6
              go_wp2_with fail
              refine HO6.out.mono ?_
              rintro e w7 ⟨A7, m7, d7, rfl, hbs7, hb7⟩
              have hB7 := hB6.trans (hb7.mono hs6)
              have hown7 := (hown3.below hB36).below hb7
              have hY7 := hown6.bs.below hb7
              by_cases heo : openE (t.take N) = 0
              · have hstep := SO2.2 heo
                rw [heo]
                have hrow : 0 < N → rowOf A6 ≠ rowOf B := fun hp e => by
                  obtain ⟨g, e1, _⟩ := hown6.form hp
                  rw [e1] at e
                  have h2 := hown6.row_ge g (by rw [e1]; rfl)
                  have h3 := rowV_lt hown3.1 g (by rw [← e]; rfl)
                  omega
                go_wp2_with (at_builtin; go_loud (refine wpList_appK rfl (.tmp 55) (.tmp 57) 37 rfl w.heap.size 22 _ 1 24 Try.underlying37 info_bs rfl (by omega) B m d _ rfl (rowK_alloc hown7.1 _) _ 1 1 (lpC ⟨A6, N, c6, t.take N⟩) rfl rfl (newLp w7 ⟨A6, N, c6, t.take N⟩ _) (lpC_one1 _) (by simp only [maxLen]; omega) (by omega) (by have := hB7.size; simp; omega) ?_; intro A8 c8 w8 hown8 hgr8 hat8))
                have hg8 := OwnL.grown (x := ⟨A6, N, c6, t.take N⟩) (hown7.alloc (.cells #[.slice A6 N c6] 22)) hgr8 hat8 hown8 (hY7.alloc _) hrow
                have hB8 := (hB7.alloc hB7.size (.cells #[.slice A6 N c6] 22)).grown hgr8 (by have := hB7.size; simp; omega) (fun q hq => rowV_ge hown7.1 q hq)
                go_roundw
                case rel => exact ⟨k + N, m + 1, A8, c8, _, by omega, by omega, by go_num, rfl, hg8, Lib.hid (by rw [List.map_append]; exact hstep), hB8⟩
                case measure => simp [intOf]; omega
              · have hfin := SO2.1 heo
                have hEz : E = openE (t.take N) := by rw [HE.out, hfin]
                have hLz : L = [] := by rw [HL.out, hfin]
                generalize openE (t.take N) = eo at *
                subst hEz hLz
                have hne : ((E : Int) != 0) = true := by rw [bne_iff_ne]; omega
                go_wp2_with fail
                go_ret2
                exact ⟨none, 0, 0, rfl, Bls.nil _, hB7⟩
            · have hg : ¬ (k : Int) + N < n := fun h => hbad ⟨rfl, by omega⟩
              clear hbad
              go_wp2_with (at_builtin; go_loud (refine wpList_app2 rfl (.tmp 26) (.tmp 33) 22 rfl w3.heap.size 5 Try.underlying22 byte_info (some ⟨w3.heap.size, 0, none⟩) 0 0 [] rfl (own_empty w3 _ _ (Nat.le_refl _)) A1 N c1 _ rfl (hY.alloc _) (by omega) (by simp) ?_; intro A6 c6 w6 hown6 hgr6 hat6; rw [Nat.zero_add] at hown6; rw [List.nil_append] at hown6; rw [Nat.zero_add]; have k6 := k2.grown hgr6 (by simp [rowOf]; omega); have f6 := k6.all4.1; have hB6 := (hB3.alloc hB3.size (.cells #[] 5)).grown hgr6 (by simp; omega) (fun q hq => by simp [rowOf] at hq; omega); have hB36 : Below w3.heap.size w3 w6 := (below1 w3 (.cells #[] 5)).grown hgr6 (by simp) (fun q hq => by simp [rowOf] at hq; omega)))
              have hs6 := hB6.size
              have hO6 := ropen_any A6 N c6 _ w6 hown6.bs (by omega)
              have HO6 := Lib.hid hO6
              clear hO6 f1 f2 f6
              go_wp2_with fail
              refine HO6.out.mono ?_
              rintro e w7 ⟨A7, m7, d7, rfl, hbs7, hb7⟩
              have hB7 := hB6.trans (hb7.mono hs6)
              have hown7 := (hown3.below hB36).below hb7
              have hY7 := hown6.bs.below hb7
              by_cases heo : openE (t.take N) = 0
              · have hstep := SO2.2 heo
                rw [heo]
                have hrow : 0 < N → rowOf A6 ≠ rowOf B := fun hp e => by
                  obtain ⟨g, e1, _⟩ := hown6.form hp
                  rw [e1] at e
                  have h2 := hown6.row_ge g (by rw [e1]; rfl)
                  have h3 := rowV_lt hown3.1 g (by rw [← e]; rfl)
                  omega
                go_wp2_with (at_builtin; go_loud (refine wpList_appK rfl (.tmp 55) (.tmp 57) 37 rfl w.heap.size 22 _ 1 24 Try.underlying37 info_bs rfl (by omega) B m d _ rfl (rowK_alloc hown7.1 _) _ 1 1 (lpC ⟨A6, N, c6, t.take N⟩) rfl rfl (newLp w7 ⟨A6, N, c6, t.take N⟩ _) (lpC_one1 _) (by simp only [maxLen]; omega) (by omega) (by have := hB7.size; simp; omega) ?_; intro A8 c8 w8 hown8 hgr8 hat8))
                have hg8 := OwnL.grown (x := ⟨A6, N, c6, t.take N⟩) (hown7.alloc (.cells #[.slice A6 N c6] 22)) hgr8 hat8 hown8 (hY7.alloc _) hrow
                have hB8 := (hB7.alloc hB7.size (.cells #[.slice A6 N c6] 22)).grown hgr8 (by have := hB7.size; simp; omega) (fun q hq => rowV_ge hown7.1 q hq)
                go_roundw
                case rel => exact ⟨k + N, m + 1, A8, c8, _, by omega, by omega, by go_num, rfl, hg8, Lib.hid (by rw [List.map_append]; exact hstep), hB8⟩
                case measure => simp [intOf]; omega
              · have hfin := SO2.1 heo
                have hEz : E = openE (t.take N) := by rw [HE.out, hfin]
                have hLz : L = [] := by rw [HL.out, hfin]
                generalize openE (t.take N) = eo at *
                subst hEz hLz
                have hne : ((E : Int) != 0) = true := by rw [bne_iff_ne]; omega
                go_wp2_with fail
                go_ret2
                exact ⟨none, 0, 0, rfl, Bls.nil _, hB7⟩
        · have hfin := S1.out he1
          have hEz : E = e1 := by rw [HE.out, hfin]
          have hLz : L = [] := by rw [HL.out, hfin]
          subst hEz hLz
          have hne : ((E : Int) != 0) = true := by rw [bne_iff_ne]; omega
          have f1 := k1.all4.1
          go_wp2_with fail
          go_ret2
          exact ⟨none, 0, 0, rfl, Bls.nil _, hB3⟩
      · obtain rfl : k = n := by omega
        have hkn2 : ¬ (k : Int) < k := by omega
        have hfin := SplitAt.done (s := s) (L := es.map Lp.s) (by rw [hl]; exact hsp.out)
        have hEz : E = 0 := by rw [HE.out, hfin]
        have hLz : L = es.map Lp.s := by rw [HL.out, hfin]
        clear hsp HE HL hfin
        subst hEz hLz
        go_wp2_with fail
        go_ret2
        exact ⟨B, m, d, rfl, hown.bls, hB⟩

end Go.Proofs.Ytkfinkmbdpdepaa

/-
  TrainSplits, walked under the contracts of package train's calls. (Written by gen_TrainSplitsW.py.)
-/
import Derived.Test.YtkfinkmbdpdepaaTrainA
import Derived.Test.YtkfinkmbdpdepaaTrainV
import Derived.Test.YtkfinkmbdpdepaaTrainSplits0W
import Derived.Test.YtkfinkmbdpdepaaBase
namespace Go.Proofs.Ytkfinkmbdpdepaa
open Go.RowKit
set_option linter.unusedVariables false
set_option linter.unusedSimpArgs false

section
variable (KC : TrainCalls)
include KC
set_option maxRecDepth 100000 in
set_option maxHeartbeats 8000000 in
theorem trainSplits_main (Ak : Option Addr) (nk ck : Nat) (sk : List UInt8) (Aq : Option Addr) (nq cq : Nat) (sq : List UInt8) (Ab : Option Addr) (nb cb : Nat) (L : List (List UInt8)) (tr : Nat) (Ad : Option Addr) (m d : Nat) (u : List UInt8) (ct : Nat) (w : World) (hk : Bs w Ak nk ck sk) (hq : Bs w Aq nq cq sq) (hL : Bls w Ab nb cb L) (hu : Bs w Ad m d u) (htr : tr < 256) (hct : ct < 65536) (h0 : nb ≤ 20) (h1 : nb ≤ nk) (h2 : nb ≤ nq) (h3 : m ≤ 3000) :
    Calls Try.prog 5 #[.slice Ak nk ck, .slice Aq nq cq, .slice Ab nb cb, .int .u8 (tr : Int), .slice Ad m d, .int .u16 (ct : Int)] w fun e w' => e = .returned (.bool true) ∧ Below w.heap.size w w' := by
  have hLl := hL.len
  have hkl := hk.len
  have hql := hq.len
  have hul := hu.len
  have g0 : decide ((20 : Int) < (nb : Int)) = false := decide_eq_false (by omega)
  have g1 : decide (nk < nb) = false := decide_eq_false (by omega)
  have g2 : decide (nq < nb) = false := decide_eq_false (by omega)
  have g3 : decide ((3000 : Int) < (m : Int)) = false := decide_eq_false (by omega)
  go_enter Try.func5, Try.ntmps5
  go_wp2_with fail
  refine (awake11_any KC _).mono ?_
  rintro e w2 ⟨rfl, hb2⟩
  replace hk := hk.below hb2
  replace hq := hq.below hb2
  replace hL := hL.below hb2
  replace hu := hu.below hb2
  go_wp2_with fail
  go_loopw [13, 14, 15] (fun cv av i W => ∃ (j : Nat) (B1 : Option Addr) (d1 : Nat) (A1 : Option Addr) (n1 c1 : Nat), j ≤ nb ∧ cv = .slice B1 j d1 ∧ av = .slice A1 n1 c1 ∧ i = .int .i64 j ∧ (∀ i, i < j → (L.getD i []).length ≤ 300) ∧ CarsIn w2 W B1 d1 A1 n1 c1 (carsTo sk sq L tr j)) (fun _ _ i _ => nb - (intOf i).toNat)
  case atStart => exact ⟨0, none, 0, none, 0, 0, Nat.zero_le _, rfl, rfl, rfl, fun i hi => by omega, CarsIn.start _⟩
  case round =>
    obtain ⟨j, B1, d1, A1, n1, c1, hjn, rfl, rfl, rfl, hlen, hcars⟩ := hrel
    have hBw := hcars.base
    have hnl := hcars.len
    have hfl := carsTo_flat (K := sk) (Q := sq) (L := L) (tr := tr) j hlen
    rw [hnl] at hfl
    have hn1 : n1 ≤ 1000000 := by omega
    by_cases hj : j < nb
    · have hj2 : (j : Int) < nb := by omega
      have hcc := hcars
      obtain ⟨es0, h1c, _, h3c, _⟩ := hcc
      obtain ⟨bb, ob, rfl, hlt0, hc0⟩ := hL.at_ (by omega)
      obtain ⟨Ai, ni, ci, hcell, hbi⟩ := hc0 j (by omega)
      have qB := (hBw.cell (p := ⟨bb, ob + j, none⟩) hlt0).trans hcell
      have hltB : bb < wr.heap.size := Nat.lt_of_lt_of_le hlt0 hBw.size
      replace hbi := hbi.below hBw
      have hLj : L.getD j [] = L[j]'(by omega) := by rw [List.getD_eq_getElem?_getD, List.getElem?_eq_getElem (by omega)]; rfl
      clear hc0 hcell
      generalize L[j]'(by omega) = si at *
      have hil := hbi.len
      have hni1 := hbi.le
      have hni2 := hbi.cap
      unfold maxLen at hni2
      by_cases h300 : 300 < ni
      · have h300i : (300 : Int) < ni := by omega
        clear hcars
        go_wp2_with fail
        go_ret
        exact ⟨rfl, hb2.trans (hBw.mono hb2.size)⟩
      · have h300i : ¬ (300 : Int) < ni := by omega
        obtain ⟨bk, ok, rfl, hltK0, hcK⟩ := hk.at_ (by omega)
        have qK := (hBw.cell (p := ⟨bk, ok + j, none⟩) hltK0).trans (hcK j (by omega))
        have hltK : bk < wr.heap.size := Nat.lt_of_lt_of_le hltK0 hBw.size
        obtain ⟨bq, oq, rfl, hltQ0, hcQ⟩ := hq.at_ (by omega)
        have qQ := (hBw.cell (p := ⟨bq, oq + j, none⟩) hltQ0).trans (hcQ j (by omega))
        have hltQ : bq < wr.heap.size := Nat.lt_of_lt_of_le hltQ0 hBw.size
        clear hcK hcQ
        have jk : (j : Int) < nk := by omega
        have jq : (j : Int) < nq := by omega
        have hw1 : IntKind.i64.wrap ((nb : Int) - 1) = (nb : Int) - 1 := IntWalk.i64_in _ (by omega)
        by_cases hlast : j + 1 = nb
        · as_aux_lemma =>
            have htail : tailN nb tr j = (4 * (tr % 64)) := if_pos (by omega)
            have hcar := carAt_ok (K := sk) (Q := sq) (L := L) (tr := tr) j (by rw [hLj]; omega)
            have HC := Lib.hid (fun W (P : Option Addr) r a h => KC.close ((sk.getD j 0).toNat : Int) (((sq.getD j 0).toNat % 32 : Nat) : Int) P r a (si.take (ni / 4 * 4)) ((4 * (tr % 64) : Nat) : Int) W h)
            have hXe : carAt sk sq L tr j = closeB ((sk.getD j 0).toNat : Int) (((sq.getD j 0).toNat % 32 : Nat) : Int) (si.take (ni / 4 * 4)) ((4 * (tr % 64) : Nat) : Int) := by
              unfold carAt
              rw [hLj, hil, hLl, htail]
              try rfl
            have htk : (si.take (ni / 4 * 4)).length = ni / 4 * 4 := by rw [List.length_take, hil]; omega
            have hmay := carAt_may (tr := tr) (n := nb) (i := j) (s := si.take (ni / 4 * 4)) (sk.getD j 0).toNat_lt (Nat.mod_lt (sq.getD j 0).toNat (show 0 < 32 by omega)) (by omega) (by omega)
            rw [htail] at hmay
            have e1 : closeR ((sk.getD j 0).toNat : Int) (((sq.getD j 0).toNat % 32 : Nat) : Int) (si.take (ni / 4 * 4)) ((4 * (tr % 64) : Nat) : Int) = carAt sk sq L tr j := by rw [hXe]; exact if_pos hmay
            have e2 : closeE ((sk.getD j 0).toNat : Int) (((sq.getD j 0).toNat % 32 : Nat) : Int) (si.take (ni / 4 * 4)) ((4 * (tr % 64) : Nat) : Int) = 0 := if_pos hmay
            rw [e1, e2] at HC
            unfold GivesBE at HC
            have hsucc := carsTo_succ (K := sk) (Q := sq) (L := L) (tr := tr) j
            obtain ⟨hc1, hc2, hc3, hc4⟩ := hcar
            clear e1 e2 hmay hXe htail hc1 hc2
            generalize carAt sk sq L tr j = X at *
            have hKl := byte_getD_lt sk j
            have hQl := byte_getD_lt sq j
            generalize (sk.getD j 0).toNat = x at *
            generalize (sq.getD j 0).toNat = y at *
            obtain ⟨y2, hy2, hy3⟩ : ∃ y2, y % 32 = y2 ∧ y2 < 32 := ⟨_, rfl, by omega⟩
            have ey : ((y : Nat) : Int).tmod 32 = (y2 : Int) := by rw [Int.tmod_eq_emod_of_nonneg (by omega)]; omega
            rw [hy2] at HC
            obtain ⟨r, hr⟩ : ∃ r, ni / 4 * 4 = r := ⟨_, rfl⟩
            rw [hr] at HC htk
            have er1 : ((ni : Nat) : Int).tdiv 4 = ((ni / 4 : Nat) : Int) := by rw [Int.tdiv_eq_ediv_of_nonneg (by omega)]; omega
            obtain ⟨r4, hr4⟩ : ∃ r4, ni / 4 = r4 := ⟨_, rfl⟩
            rw [hr4] at er1
            have er3 : IntKind.i64.wrap (r4 : Int) = r4 := IntWalk.i64_in _ (by omega)
            have er2 : IntKind.i64.wrap ((r4 : Int) * 4) = (r : Int) := by rw [IntWalk.i64_in _ (by omega)]; omega
            obtain ⟨A1', c1', hsl, hY⟩ := hbi.slice_r Try.underlying22 byte_size (r := r) (by omega)
            have hsl2 := fun W => hsl W (r : Int) rfl
            have hrl : r ≤ 300 := by omega
            clear hsl hy2 hr hr4
            have HCx := Lib.hid (fun W h => HC.out W A1' r c1' h (by omega))
            clear HC
            have et1 : ((tr : Nat) : Int).tmod 64 = ((tr % 64 : Nat) : Int) := by rw [Int.tmod_eq_emod_of_nonneg (by omega)]; omega
            obtain ⟨t6, ht6, ht7⟩ : ∃ t6, tr % 64 = t6 ∧ t6 < 64 := ⟨_, rfl, by omega⟩
            rw [ht6] at et1 HCx
            have et2 : IntKind.i64.wrap (4 * (t6 : Int)) = 4 * t6 := IntWalk.i64_in _ (by omega)
            have et3 : IntKind.u8.wrap (t6 : Int) = t6 := by rw [IntKind.wrap_u8]; omega
            have et4 : IntKind.i64.wrap (t6 : Int) = t6 := IntWalk.i64_in _ (by omega)
            rw [show ((4 * t6 : Nat) : Int) = 4 * (t6 : Int) by omega] at HCx
            have el2 : ((j : Int) == (nb : Int) - 1) = true := by rw [beq_iff_eq]; omega
            have ex1 : IntKind.i64.wrap (x : Int) = x := IntWalk.i64_in _ (by omega)
            have ey1 : IntKind.i64.wrap (y : Int) = y := IntWalk.i64_in _ (by omega)
            go_upto_region 15 with fail
            have qK' : (wr.drew).cell? ⟨bk, ok + j, none⟩ = some (.int .u8 (x : Int)) := qK
            go_region_held3 (fun W => W.cell? ⟨bk, ok + j, none⟩ = some (.int .u8 (x : Int)) ∧ W.cell? ⟨bq, oq + j, none⟩ = some (.int .u8 (y : Int)) ∧ W.cell? ⟨bb, ob + j, none⟩ = some (.slice Ai ni ci))
              (go_keep)
              ((go_at_call 9; refine (HCx.out _ hY.drew).mono ?_; rintro e w5 ⟨A5, c5, rfl, hx5, hb5⟩; have z1 := (hb5.cell (p := ⟨bk, ok + j, none⟩) hltK).trans qK; have z2 := (hb5.cell (p := ⟨bq, oq + j, none⟩) hltQ).trans qQ; have z3 := (hb5.cell (p := ⟨bb, ob + j, none⟩) hltB).trans qB))
            all_goals
              obtain ⟨es, h1, h2, h3, h4, h5, h6⟩ := hcars.below ((Below.refl _ wr).drew.trans hb5)
              rw [carsTo_length] at h1
              have hxA : 0 < X.length → rowOf A5 ≠ rowOf A1 := fun hp e => by
                obtain ⟨g, e1, e2, _⟩ := hx5.form hp
                rw [e1] at e
                have := h3c.row_lt g (by rw [← e]; rfl)
                simp at e2
                omega
              have hxB : 0 < X.length → rowOf A5 ≠ rowOf B1 := fun hp e => by
                obtain ⟨g, e1, e2, _⟩ := hx5.form hp
                rw [e1] at e
                have := rowV_lt h1c.1 g (by rw [← e]; rfl)
                simp at e2
                omega
              have hne0 : ((X.length : Int) == 0) = false := by rw [beq_eq_false_iff_ne]; omega
              have hw5 := h6.size
              go_wp2_with (first
                | (at_builtin; (refine wpList_appK rfl (.tmp 112) (.tmp 114) 37 rfl w2.heap.size 22 _ 1 24 Try.underlying37 info_bs rfl (by omega) B1 j d1 _ rfl (rowK_alloc h1.1 _) _ 1 1 (lpC ⟨A5, X.length, c5, X⟩) rfl rfl (newLp w5 ⟨A5, X.length, c5, X⟩ _) (lpC_one1 _) (by simp only [maxLen]; omega) (by omega) (by simp; omega) ?_; intro B2 d2 w6 hown6 hgr6 hat6; have hmid := cars_mid h1 h3 h4 h5 hx5 hxA hxB hgr6 hat6 hown6; have hB6 := (h6.alloc h6.size (.cells #[.slice A5 X.length c5] 22)).grown hgr6 (by simp; omega) (fun q hq => rowV_ge h1.1 q hq); have hz6 := hB6.size))
                | (at_builtin; (refine wpList_app2 rfl (.tmp 116) (.tmp 117) 22 rfl w2.heap.size 5 Try.underlying22 byte_info A1 n1 c1 _ rfl hmid.2.1 A5 X.length c5 _ rfl hmid.2.2.1 (by omega) hz6 ?_; intro A7 c7 w7 hown7 hgr7 hat7)))
              obtain ⟨m1, m2, m3, m4, m5⟩ := hmid
              have hend := cars_end m1 m4 m5 hgr7 hat7
              have hB7 := hB6.grown hgr7 hz6 (fun q hq => m2.row_ge q hq)
              go_roundw
              case rel =>
                refine ⟨j + 1, B2, d2, A7, n1 + X.length, c7, by omega, by first | rfl | rw [hlast], rfl, by go_num, ?_, ?_⟩
                · intro i hi
                  rcases Nat.lt_or_ge i j with h | h
                  · exact hlen i h
                  · obtain rfl : i = j := by omega
                    rw [hLj]; omega
                · refine ⟨es ++ [⟨A5, X.length, c5, X⟩], by rw [carsTo_length]; exact hend.1, by rw [List.map_append, h2, hsucc]; rfl, ?_, hend.2.1, hend.2.2, hB7⟩
                  rw [hsucc, List.flatten_append]
                  simpa using hown7
              case measure => simp [intOf]; omega
        · as_aux_lemma =>
            have htail : tailN nb tr j = 0 := if_neg (by omega)
            have hcar := carAt_ok (K := sk) (Q := sq) (L := L) (tr := tr) j (by rw [hLj]; omega)
            have HC := Lib.hid (fun W (P : Option Addr) r a h => KC.close ((sk.getD j 0).toNat : Int) (((sq.getD j 0).toNat % 32 : Nat) : Int) P r a (si.take (ni / 4 * 4)) (0 : Int) W h)
            have hXe : carAt sk sq L tr j = closeB ((sk.getD j 0).toNat : Int) (((sq.getD j 0).toNat % 32 : Nat) : Int) (si.take (ni / 4 * 4)) (0 : Int) := by
              unfold carAt
              rw [hLj, hil, hLl, htail]
              try rfl
            have htk : (si.take (ni / 4 * 4)).length = ni / 4 * 4 := by rw [List.length_take, hil]; omega
            have hmay := carAt_may (tr := tr) (n := nb) (i := j) (s := si.take (ni / 4 * 4)) (sk.getD j 0).toNat_lt (Nat.mod_lt (sq.getD j 0).toNat (show 0 < 32 by omega)) (by omega) (by omega)
            rw [htail] at hmay
            have e1 : closeR ((sk.getD j 0).toNat : Int) (((sq.getD j 0).toNat % 32 : Nat) : Int) (si.take (ni / 4 * 4)) (0 : Int) = carAt sk sq L tr j := by rw [hXe]; exact if_pos hmay
            have e2 : closeE ((sk.getD j 0).toNat : Int) (((sq.getD j 0).toNat % 32 : Nat) : Int) (si.take (ni / 4 * 4)) (0 : Int) = 0 := if_pos hmay
            rw [e1, e2] at HC
            unfold GivesBE at HC
            have hsucc := carsTo_succ (K := sk) (Q := sq) (L := L) (tr := tr) j
            obtain ⟨hc1, hc2, hc3, hc4⟩ := hcar
            clear e1 e2 hmay hXe htail hc1 hc2
            generalize carAt sk sq L tr j = X at *
            have hKl := byte_getD_lt sk j
            have hQl := byte_getD_lt sq j
            generalize (sk.getD j 0).toNat = x at *
            generalize (sq.getD j 0).toNat = y at *
            obtain ⟨y2, hy2, hy3⟩ : ∃ y2, y % 32 = y2 ∧ y2 < 32 := ⟨_, rfl, by omega⟩
            have ey : ((y : Nat) : Int).tmod 32 = (y2 : Int) := by rw [Int.tmod_eq_emod_of_nonneg (by omega)]; omega
            rw [hy2] at HC
            obtain ⟨r, hr⟩ : ∃ r, ni / 4 * 4 = r := ⟨_, rfl⟩
            rw [hr] at HC htk
            have er1 : ((ni : Nat) : Int).tdiv 4 = ((ni / 4 : Nat) : Int) := by rw [Int.tdiv_eq_ediv_of_nonneg (by omega)]; omega
            obtain ⟨r4, hr4⟩ : ∃ r4, ni / 4 = r4 := ⟨_, rfl⟩
            rw [hr4] at er1
            have er3 : IntKind.i64.wrap (r4 : Int) = r4 := IntWalk.i64_in _ (by omega)
            have er2 : IntKind.i64.wrap ((r4 : Int) * 4) = (r : Int) := by rw [IntWalk.i64_in _ (by omega)]; omega
            obtain ⟨A1', c1', hsl, hY⟩ := hbi.slice_r Try.underlying22 byte_size (r := r) (by omega)
            have hsl2 := fun W => hsl W (r : Int) rfl
            have hrl : r ≤ 300 := by omega
            clear hsl hy2 hr hr4
            have HCx := Lib.hid (fun W h => HC.out W A1' r c1' h (by omega))
            clear HC
            have el2 : ((j : Int) == (nb : Int) - 1) = false := by rw [beq_eq_false_iff_ne]; omega
            have ex1 : IntKind.i64.wrap (x : Int) = x := IntWalk.i64_in _ (by omega)
            have ey1 : IntKind.i64.wrap (y : Int) = y := IntWalk.i64_in _ (by omega)
            go_upto_region 15 with fail
            have qK' : (wr.drew).cell? ⟨bk, ok + j, none⟩ = some (.int .u8 (x : Int)) := qK
            go_region_held3 (fun W => W.cell? ⟨bk, ok + j, none⟩ = some (.int .u8 (x : Int)) ∧ W.cell? ⟨bq, oq + j, none⟩ = some (.int .u8 (y : Int)) ∧ W.cell? ⟨bb, ob + j, none⟩ = some (.slice Ai ni ci))
              (go_keep)
              ((go_at_call 9; refine (HCx.out _ hY.drew).mono ?_; rintro e w5 ⟨A5, c5, rfl, hx5, hb5⟩; have z1 := (hb5.cell (p := ⟨bk, ok + j, none⟩) hltK).trans qK; have z2 := (hb5.cell (p := ⟨bq, oq + j, none⟩) hltQ).trans qQ; have z3 := (hb5.cell (p := ⟨bb, ob + j, none⟩) hltB).trans qB))
            all_goals
              obtain ⟨es, h1, h2, h3, h4, h5, h6⟩ := hcars.below ((Below.refl _ wr).drew.trans hb5)
              rw [carsTo_length] at h1
              have hxA : 0 < X.length → rowOf A5 ≠ rowOf A1 := fun hp e => by
                obtain ⟨g, e1, e2, _⟩ := hx5.form hp
                rw [e1] at e
                have := h3c.row_lt g (by rw [← e]; rfl)
                simp at e2
                omega
              have hxB : 0 < X.length → rowOf A5 ≠ rowOf B1 := fun hp e => by
                obtain ⟨g, e1, e2, _⟩ := hx5.form hp
                rw [e1] at e
                have := rowV_lt h1c.1 g (by rw [← e]; rfl)
                simp at e2
                omega
              have hne0 : ((X.length : Int) == 0) = false := by rw [beq_eq_false_iff_ne]; omega
              have hw5 := h6.size
              go_wp2_with (first
                | (at_builtin; (refine wpList_appK rfl (.tmp 112) (.tmp 114) 37 rfl w2.heap.size 22 _ 1 24 Try.underlying37 info_bs rfl (by omega) B1 j d1 _ rfl (rowK_alloc h1.1 _) _ 1 1 (lpC ⟨A5, X.length, c5, X⟩) rfl rfl (newLp w5 ⟨A5, X.length, c5, X⟩ _) (lpC_one1 _) (by simp only [maxLen]; omega) (by omega) (by simp; omega) ?_; intro B2 d2 w6 hown6 hgr6 hat6; have hmid := cars_mid h1 h3 h4 h5 hx5 hxA hxB hgr6 hat6 hown6; have hB6 := (h6.alloc h6.size (.cells #[.slice A5 X.length c5] 22)).grown hgr6 (by simp; omega) (fun q hq => rowV_ge h1.1 q hq); have hz6 := hB6.size))
                | (at_builtin; (refine wpList_app2 rfl (.tmp 116) (.tmp 117) 22 rfl w2.heap.size 5 Try.underlying22 byte_info A1 n1 c1 _ rfl hmid.2.1 A5 X.length c5 _ rfl hmid.2.2.1 (by omega) hz6 ?_; intro A7 c7 w7 hown7 hgr7 hat7)))
              obtain ⟨m1, m2, m3, m4, m5⟩ := hmid
              have hend := cars_end m1 m4 m5 hgr7 hat7
              have hB7 := hB6.grown hgr7 hz6 (fun q hq => m2.row_ge q hq)
              go_roundw
              case rel =>
                refine ⟨j + 1, B2, d2, A7, n1 + X.length, c7, by omega, by first | rfl | rw [hlast], rfl, by go_num, ?_, ?_⟩
                · intro i hi
                  rcases Nat.lt_or_ge i j with h | h
                  · exact hlen i h
                  · obtain rfl : i = j := by omega
                    rw [hLj]; omega
                · refine ⟨es ++ [⟨A5, X.length, c5, X⟩], by rw [carsTo_length]; exact hend.1, by rw [List.map_append, h2, hsucc]; rfl, ?_, hend.2.1, hend.2.2, hB7⟩
                  rw [hsucc, List.flatten_append]
                  simpa using hown7
              case measure => simp [intOf]; omega
    · as_aux_lemma =>
        obtain rfl : j = nb := by omega
        have hj2 : ¬ (j : Int) < j := by omega
        obtain ⟨hCo, hCp⟩ := carsTo_ok (K := sk) (Q := sq) (L := L) (tr := tr) (by rw [hLl]; exact hlen)
        rw [hLl] at hCo hCp
        have hCl := carsTo_length (K := sk) (Q := sq) (L := L) (tr := tr) j
        have hcl := hcars.bls
        have hab := hcars.bs
        rw [hCl] at hcl
        clear hcars hfl
        generalize carsTo sk sq L tr j = C at *
        obtain ⟨s1, s2, s3⟩ := split_cars hCo hCp
        have HSp := Lib.hid (fun W h => KC.split A1 n1 c1 C.flatten W h hn1)
        rw [s1] at HSp
        have HA : Hid ((C = [] → splitE C.flatten = 2 ∧ j = 0 ∧ n1 = 0) ∧ (C ≠ [] → splitE C.flatten = 0 ∧ 0 < j ∧ 0 < n1)) := Lib.hid ⟨fun h => ⟨s2 h, by rw [← hCl, h]; rfl, by rw [← hnl, h]; rfl⟩, fun h => ⟨(s3 h).1, by have := List.length_pos_iff.2 h; omega, by have := (s3 h).2; omega⟩⟩
        generalize splitE C.flatten = ea at *
        replace hu := hu.below hBw
        replace hb2 := hb2.trans (hBw.mono hb2.size)
        clear hk hq hL hlen hBw s1 s2 s3
        go_wp2_with fail
        refine (HSp.out _ hab).mono ?_
        rintro e w8 ⟨A8, m8, d8, rfl, hl8, hb⟩
        replace hu := hu.below hb
        replace hab := hab.below hb
        replace hcl := hcl.below hb
        replace hb2 := hb2.trans (hb.mono hb2.size)
        clear hb
        go_upto_if 126 with fail
        go_cut [20] (fun q W => q = .int .i64 (ea : Int) ∧ Below w8.heap.size w8 W)
        case first =>
         as_aux_lemma =>
          by_cases hC : C = []
          · obtain ⟨rfl, hj0, _⟩ := HA.out.1 hC
            have g4 : ((j : Int) == 0) = true := by rw [beq_iff_eq]; omega
            clear hj0 HA hC
            go_wp2_with fail
            go_meet
            exact ⟨rfl, Below.refl _ _⟩
          · obtain ⟨rfl, hj0, _⟩ := HA.out.2 hC
            have g4 : ((j : Int) == 0) = false := by rw [beq_eq_false_iff_ne]; omega
            have HL := Lib.hid (rlists_any A8 m8 d8 C B1 j d1 C w8 hl8 hcl)
            rw [decide_eq_true rfl] at HL
            clear hl8 HA hC
            go_wp2_with fail
            refine (HL.out).mono ?_
            rintro e w9 ⟨rfl, hb⟩
            go_wp2_with fail
            go_meet
            exact ⟨rfl, hb⟩
        case rest =>
          obtain ⟨rfl, hb⟩ := hcut
          replace hu := hu.below hb
          replace hab := hab.below hb
          replace hcl := hcl.below hb
          replace hb2 := hb2.trans (hb.mono hb2.size)
          clear hb hl8 HSp
          obtain ⟨w9, hw9⟩ : ∃ w, w = wc := ⟨_, rfl⟩
          subst hw9
          go_upto_if 139 with fail
          go_cut [20] (fun q W => q = .int .i64 (ea : Int) ∧ Below w9.heap.size w9 W)
          case first =>
           as_aux_lemma =>
            by_cases hC : C = []
            · obtain ⟨rfl, _, hn0⟩ := HA.out.1 hC
              subst hn0
              clear HA hC
              go_wp2_with fail
              go_meet
              exact ⟨rfl, Below.refl _ _⟩
            · obtain ⟨rfl, hj0, hpos⟩ := HA.out.2 hC
              clear HA hC
              have g5 : (0 : Int) < n1 := by omega
              obtain ⟨k, hkdef, hkn⟩ : ∃ k, ct % n1 = k ∧ k < n1 := ⟨_, rfl, Nat.mod_lt _ (by omega)⟩
              have ek : ((ct : Nat) : Int).tmod (n1 : Int) = (k : Int) := by rw [Int.tmod_eq_emod_of_nonneg (by omega)]; omega
              have ec : IntKind.i64.wrap (ct : Int) = ct := IntWalk.i64_in _ (by omega)
              have hn0 : ((n1 : Int) == 0) = false := by rw [beq_eq_false_iff_ne]; omega
              clear hkdef
              obtain ⟨A9, c9, hsl9, hY⟩ := hab.slice_r Try.underlying22 byte_size (r := k) (by omega)
              have hsl10 := fun W => hsl9 W (k : Int) rfl
              clear hsl9
              have HS2 := Lib.hid (fun W h => KC.split A9 k c9 (C.flatten.take k) W h (by omega))
              have F1 := Lib.hid (fun j' (h1 : j' ≤ C.length) (h2 : (C.take j').flatten.length = k) (h3 : 0 < k) => cut_at hCo hCp h1 h2 h3)
              have F2 := Lib.hid (fun j' (h1 : ∀ i, i < j' → (C.take i).flatten.length < k) (h2 : j' = C.length ∨ k ≤ (C.take j').flatten.length) (h3 : (C.take j').flatten.length ≠ k) => cut_off hCo hCp (by rw [hnl]; exact hkn) h1 h2 h3)
              generalize splitL (C.flatten.take k) = P2 at *
              generalize splitE (C.flatten.take k) = E2 at *
              clear hu hb2
              go_wp2_with fail
              refine (HS2.out _ hY).mono ?_
              rintro e w10 ⟨A10, m9, d10, rfl, hl9, hbw⟩
              replace hcl := hcl.below hbw
              clear hY hab HS2
              go_wp2_with fail
              go_loopw [24, 25] (fun at_ many W => ∃ j2 a : Nat, j2 ≤ j ∧ many = .int .i64 j2 ∧ at_ = .int .i64 a ∧ (C.take j2).flatten.length = a ∧ (∀ i, i < j2 → (C.take i).flatten.length < k) ∧ W = w10) (fun _ many _ => j - (intOf many).toNat)
              case atStart => exact ⟨0, 0, Nat.zero_le _, rfl, rfl, rfl, fun i hi => by omega, rfl⟩
              case round =>
                obtain ⟨j2, a, hj2j, rfl, rfl, ha, hlo, rfl⟩ := hrel
                by_cases hjj : j2 < j
                · have hjji : (j2 : Int) < j := by omega
                  by_cases hak0 : a < k
                  · have haki : (a : Int) < k := by omega
                    obtain ⟨bc, oc, rfl, hltc, hcc⟩ := hcl.at_ (by omega)
                    obtain ⟨Ac, nc, cc, qC, hbc⟩ := hcc j2 (by omega)
                    have hfs := flat_succ (C := C) (j := j2) (by omega)
                    have hfm := flat_mono (C := C) (a := j2 + 1) (b := C.length) (by omega)
                    rw [List.take_length, hnl] at hfm
                    rw [← hbc.len] at qC
                    clear hcc hbc
                    generalize (C[j2]'(by omega)).length = lc at *
                    rw [ha] at hfs
                    have hw1 : IntKind.i64.wrap ((a : Int) + lc) = (a : Int) + lc := IntWalk.i64_in _ (by omega)
                    have hw2 : IntKind.i64.wrap ((j2 : Int) + 1) = (j2 : Int) + 1 := IntWalk.i64_in _ (by omega)
                    go_wp2_with fail
                    go_roundw
                    case rel => exact ⟨j2 + 1, a + lc, by omega, by go_num, by go_num, hfs, fun i hi => by
                      rcases Nat.lt_or_ge i j2 with h | h
                      · exact hlo i h
                      · obtain rfl : i = j2 := by omega
                        rw [ha]; exact hak0, by first | trivial | rfl⟩
                    case measure => simp [intOf]; omega
                  · have haki : decide ((a : Int) < k) = false := decide_eq_false (by omega)
                    have hakn : decide (a < k) = false := decide_eq_false (by omega)
                    have hm9 : (m9 : Nat) = P2.length := hl9.len.symm
                    by_cases hak : a = k
                    · obtain ⟨e1, e2⟩ : (0 < k → E2 = 0) ∧ (0 < k → m9 = j2) := ⟨fun h => (F1.out j2 (by omega) (ha.trans hak) h).1, fun h => by rw [hm9]; exact (F1.out j2 (by omega) (ha.trans hak) h).2⟩
                      subst hak
                      by_cases hk0 : 0 < a
                      · have hk0i : (0 : Int) < a := by omega
                        obtain rfl : E2 = 0 := e1 hk0
                        obtain rfl : m9 = j2 := e2 hk0
                        clear e1 e2 hm9 F1 F2 ha
                        go_wp2_with fail
                        go_meet
                        exact ⟨rfl, hbw⟩
                      · obtain rfl : a = 0 := by omega
                        clear e1 e2 hm9 F1 F2 ha
                        go_wp2_with fail
                        go_meet
                        exact ⟨rfl, hbw⟩
                    · have hE2 := F2.out j2 hlo (.inr (by omega)) (by rw [ha]; exact hak)
                      have hb1 : ((a : Int) == (k : Int)) = false := by rw [beq_eq_false_iff_ne]; omega
                      have hb2' : ((a : Int) != (k : Int)) = true := by rw [bne_iff_ne]; omega
                      have hb3 : ((E2 : Int) == 0) = false := by rw [beq_eq_false_iff_ne]; omega
                      clear hm9 F1 F2 ha hE2
                      go_wp2_with fail
                      go_meet
                      exact ⟨rfl, hbw⟩
                · have hjji : decide ((j2 : Int) < j) = false := decide_eq_false (by omega)
                  have hjjn : decide (j2 < j) = false := decide_eq_false (by omega)
                  have hm9 : (m9 : Nat) = P2.length := hl9.len.symm
                  by_cases hak : a = k
                  · obtain ⟨e1, e2⟩ : (0 < k → E2 = 0) ∧ (0 < k → m9 = j2) := ⟨fun h => (F1.out j2 (by omega) (ha.trans hak) h).1, fun h => by rw [hm9]; exact (F1.out j2 (by omega) (ha.trans hak) h).2⟩
                    subst hak
                    by_cases hk0 : 0 < a
                    · have hk0i : (0 : Int) < a := by omega
                      obtain rfl : E2 = 0 := e1 hk0
                      obtain rfl : m9 = j2 := e2 hk0
                      clear e1 e2 hm9 F1 F2 ha
                      go_wp2_with fail
                      go_meet
                      exact ⟨rfl, hbw⟩
                    · obtain rfl : a = 0 := by omega
                      clear e1 e2 hm9 F1 F2 ha
                      go_wp2_with fail
                      go_meet
                      exact ⟨rfl, hbw⟩
                  · have hE2 := F2.out j2 hlo (.inl (by omega)) (by rw [ha]; exact hak)
                    have hb1 : ((a : Int) == (k : Int)) = false := by rw [beq_eq_false_iff_ne]; omega
                    have hb2' : ((a : Int) != (k : Int)) = true := by rw [bne_iff_ne]; omega
                    have hb3 : ((E2 : Int) == 0) = false := by rw [beq_eq_false_iff_ne]; omega
                    clear hm9 F1 F2 ha hE2
                    go_wp2_with fail
                    go_meet
                    exact ⟨rfl, hbw⟩
          case rest =>
            obtain ⟨rfl, hb⟩ := hcut
            replace hu := hu.below hb
            replace hb2 := hb2.trans (hb.mono hb2.size)
            clear hb hab hcl HA
            as_aux_lemma =>
              by_cases her : splitE u = 0
              · obtain ⟨pf, po, pp⟩ := split_parts her
                have HSu := Lib.hid (fun W h => KC.split Ad m d u W h (by omega))
                rw [her] at HSu
                clear her
                generalize splitL u = P at *
                go_wp2_with fail
                refine (HSu.out _ hu).mono ?_
                rintro e w20 ⟨A20, m20, d20, rfl, hl20, hb⟩
                replace hu := hu.below hb
                replace hb2 := hb2.trans (hb.mono hb2.size)
                clear hb
                have hPl := hl20.len
                have hPb := hl20.bounds
                go_wp2_with fail
                go_loopw [26, 27] (fun av i W => ∃ (q : Nat) (A3 : Option Addr) (n3 c3 : Nat), q ≤ m20 ∧ i = .int .i64 q ∧ av = .slice A3 n3 c3 ∧ Own W w20.heap.size 5 A3 n3 c3 (P.take q).flatten ∧ Below w20.heap.size w20 W) (fun _ i _ => m20 - (intOf i).toNat)
                case atStart => exact ⟨0, none, 0, 0, Nat.zero_le _, rfl, rfl, Own.nil _ _ _, Below.refl _ _⟩
                case round =>
                  obtain ⟨q, A3, n3, c3, hq, rfl, rfl, hown, hBr⟩ := hrel
                  have hnl3 := hown.len
                  have hn3 : n3 ≤ m := by
                    rw [← hnl3, ← hul, ← pf]
                    have := flat_mono (C := P) (a := q) (b := P.length) (by omega)
                    rwa [List.take_length] at this
                  by_cases hqm : q < m20
                  · have hqi : (q : Int) < m20 := by omega
                    obtain ⟨bl, ol, rfl, hltl0, hcl0⟩ := hl20.at_ (by omega)
                    obtain ⟨Ap, np, cp, qP0, hbp0⟩ := hcl0 q (by omega)
                    clear hcl0
                    have qP := (hBr.cell (p := ⟨bl, ol + q, none⟩) hltl0).trans qP0
                    have hltl : bl < wr.heap.size := Nat.lt_of_lt_of_le hltl0 hBr.size
                    have hbp := hbp0.below hBr
                    have pq : openE (P[q]'(by omega)) = 0 := po _ (List.getElem_mem _)
                    have pz := pp q (by omega)
                    have htk := List.take_succ_eq_append_getElem (l := P) (i := q) (by omega)
                    have hlen4 := flat_succ (C := P) (j := q) (by omega)
                    have hmono4 := flat_mono (C := P) (a := q + 1) (b := P.length) (by omega)
                    rw [List.take_length, pf] at hmono4
                    clear qP0 hbp0
                    generalize P[q]'(by omega) = X at *
                    have hXl := hbp.len
                    have hXm : np ≤ 3000 := by omega
                    have HOx := Lib.hid (fun W h => KC.open_ Ap np cp X W h (by omega))
                    rw [pq] at HOx
                    have eN : openN X = openP X := if_pos pq
                    rw [eN] at HOx
                    clear eN pq
                    generalize openC X = CX at *
                    generalize openD X = DX at *
                    generalize openP X = NX at *
                    obtain ⟨xp, xc, xt, xz⟩ := CX
                    unfold GivesOp at HOx
                    dsimp only [cmW] at HOx
                    replace hlen4 := Lib.hid hlen4
                    replace htk := Lib.hid htk
                    have hw27 : IntKind.i64.wrap ((q : Int) + 1) = (q : Int) + 1 := IntWalk.i64_in _ (by omega)
                    go_wp2_with fail
                    refine (HOx.out _ hbp).mono ?_
                    rintro e w21 ⟨A21, d21, rfl, hy21, hb⟩
                    clear hy21
                    have hB21 := hBr.trans (hb.mono hBr.size)
                    have hz21 := hB21.size
                    have kb := Box.new w21 [.bool xp, .int .i64 xc, .int .i64 xt, .int .i64 xz] 25
                    have hB22 := hB21.alloc hB21.size (.cells #[.bool xp, .int .i64 xc, .int .i64 xt, .int .i64 xz] 25)
                    have qP2 := ((below1 w21 (.cells #[.bool xp, .int .i64 xc, .int .i64 xt, .int .i64 xz] 25)).cell (p := ⟨bl, ol + q, none⟩) (Nat.lt_of_lt_of_le hltl hb.size)).trans ((hb.cell (p := ⟨bl, ol + q, none⟩) hltl).trans qP)
                    have hown2 := (hown.below hb).below (below1 w21 (.cells #[.bool xp, .int .i64 xc, .int .i64 xt, .int .i64 xz] 25))
                    have hbp2 := (hbp.below hb).alloc (.cells #[.bool xp, .int .i64 xc, .int .i64 xt, .int .i64 xz] 25)
                    clear hb
                    by_cases hq1 : q + 1 < m20
                    · obtain rfl : NX = 0 := pz (by omega)
                      have hz22 := hB22.size
                      go_upto_region 45 with fail
                      go_wp2_with (at_builtin; (refine wpList_app2 rfl (.tmp 235) (.tmp 239) 22 rfl w20.heap.size 5 Try.underlying22 byte_info A3 n3 c3 _ rfl hown2 Ap np cp _ rfl hbp2 (by omega) hz22 ?_; intro A23 c23 w23 hown23 hgr23 hat23))
                      have hB23 := hB22.grown hgr23 hz22 (fun q hq => hown2.row_ge q hq)
                      go_roundw
                      case rel => exact ⟨q + 1, A23, n3 + np, c23, by omega, by go_num, rfl, by rw [htk.out, List.flatten_append]; simpa using hown23, hB23⟩
                      case measure => simp [intOf]; omega
                    · have hq1i : decide ((q : Int) + 1 < (m20 : Int)) = false := decide_eq_false (by omega)
                      have hq1n : ¬ (q : Int) + 1 < (m20 : Int) := by omega
                      have hz22 := hB22.size
                      by_cases hNX : 0 < NX
                      · have hNi : (0 : Int) < (NX : Int) := by omega
                        go_upto_region 45 with fail
                        go_wp2_with (at_builtin; (refine wpList_app2 rfl (.tmp 235) (.tmp 239) 22 rfl w20.heap.size 5 Try.underlying22 byte_info A3 n3 c3 _ rfl hown2 Ap np cp _ rfl hbp2 (by omega) hz22 ?_; intro A23 c23 w23 hown23 hgr23 hat23))
                        have hB23 := hB22.grown hgr23 hz22 (fun q hq => hown2.row_ge q hq)
                        go_roundw
                        case rel => exact ⟨q + 1, A23, n3 + np, c23, by omega, by go_num, rfl, by rw [htk.out, List.flatten_append]; simpa using hown23, hB23⟩
                        case measure => simp [intOf]; omega
                      · obtain rfl : NX = 0 := by omega
                        go_upto_region 45 with fail
                        go_wp2_with (at_builtin; (refine wpList_app2 rfl (.tmp 235) (.tmp 239) 22 rfl w20.heap.size 5 Try.underlying22 byte_info A3 n3 c3 _ rfl hown2 Ap np cp _ rfl hbp2 (by omega) hz22 ?_; intro A23 c23 w23 hown23 hgr23 hat23))
                        have hB23 := hB22.grown hgr23 hz22 (fun q hq => hown2.row_ge q hq)
                        go_roundw
                        case rel => exact ⟨q + 1, A23, n3 + np, c23, by omega, by go_num, rfl, by rw [htk.out, List.flatten_append]; simpa using hown23, hB23⟩
                        case measure => simp [intOf]; omega
                  · obtain rfl : q = m20 := by omega
                    have hqi : ¬ (q : Int) < q := by omega
                    have hfl : (P.take q).flatten = u := by rw [List.take_of_length_le (by omega)]; exact pf
                    rw [hfl] at hown
                    have t1 := str_of hown.bs
                    have t2 := str_of (hu.below hBr)
                    clear hown hfl
                    go_wp2_with fail
                    go_ret
                    exact ⟨by first | rfl | (simp; done), hb2.trans (hBr.mono hb2.size)⟩
              · have HSu := Lib.hid (fun W h => KC.split Ad m d u W h (by omega))
                rw [split_none her] at HSu
                generalize splitE u = er at *
                have hne : ((er : Int) != 0) = true := by rw [bne_iff_ne]; omega
                go_wp2_with fail
                refine (HSu.out _ hu).mono ?_
                rintro e w20 ⟨A20, m20, d20, rfl, hl20, hb⟩
                obtain rfl : m20 = 0 := by simpa using hl20.len.symm
                go_wp2_with fail
                go_ret
                exact ⟨by first | rfl | (simp; done), hb2.trans (hb.mono hb2.size)⟩


theorem trainSplits_all (Ak : Option Addr) (nk ck : Nat) (sk : List UInt8) (Aq : Option Addr) (nq cq : Nat) (sq : List UInt8) (Ab : Option Addr) (nb cb : Nat) (L : List (List UInt8)) (tr : Nat) (Ad : Option Addr) (m d : Nat) (u : List UInt8) (ct : Nat) (w : World) (hk : Bs w Ak nk ck sk) (hq : Bs w Aq nq cq sq) (hL : Bls w Ab nb cb L) (hu : Bs w Ad m d u) (htr : tr < 256) (hct : ct < 65536) :
    Calls Try.prog 5 #[.slice Ak nk ck, .slice Aq nq cq, .slice Ab nb cb, .int .u8 (tr : Int), .slice Ad m d, .int .u16 (ct : Int)] w fun e w' => e = .returned (.bool true) ∧ Below w.heap.size w w' := by
  have b1 := hL.bounds
  have b2 := hk.le
  have b3 := hk.cap
  have b4 := hq.le
  have b5 := hq.cap
  have b6 := hu.le
  have b7 := hu.cap
  unfold maxLen at b3 b5 b7
  by_cases h0 : 20 < nb
  · exact trainSplits_early0 KC Ak nk ck sk Aq nq cq sq Ab nb cb L tr Ad m d u ct w h0 (by omega) (by omega) (by omega) (by omega)
  · by_cases h1 : nk < nb
    · exact trainSplits_early1 KC Ak nk ck sk Aq nq cq sq Ab nb cb L tr Ad m d u ct w h0 h1 (by omega) (by omega) (by omega) (by omega)
    · by_cases h2 : nq < nb
      · exact trainSplits_early2 KC Ak nk ck sk Aq nq cq sq Ab nb cb L tr Ad m d u ct w h0 h1 h2 (by omega) (by omega) (by omega) (by omega)
      · by_cases h3 : 3000 < m
        · exact trainSplits_early3 KC Ak nk ck sk Aq nq cq sq Ab nb cb L tr Ad m d u ct w h0 h1 h2 h3 (by omega) (by omega) (by omega) (by omega)
        · exact trainSplits_main KC Ak nk ck sk Aq nq cq sq Ab nb cb L tr Ad m d u ct w hk hq hL hu htr hct (by omega) (by omega) (by omega) (by omega)
end

end Go.Proofs.Ytkfinkmbdpdepaa

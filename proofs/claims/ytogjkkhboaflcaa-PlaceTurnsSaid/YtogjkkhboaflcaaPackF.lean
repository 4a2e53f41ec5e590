/-
  What the functions of package packet come to: Read, where the extension lies within the bytes; Canon; all of the contracts that layer 6 leans on. (Written by gen_PackF.py.)
-/
import Derived.Test.YtogjkkhboaflcaaPackE
namespace Go.Proofs.Ytogjkkhboaflcaa
open Go.RowKit
set_option linter.unusedVariables false
set_option linter.unusedSimpArgs false

set_option maxRecDepth 100000 in
set_option maxHeartbeats 4000000 in
theorem pread_rest (A : Option Addr) (l c : Nat) (s : List UInt8) (w : World) (hs : Bs w A l c s) (hl : l ≤ 65535) (h : hErr s = 0) (hx : (readH s).ext = true → readN s + 4 + 4 * wordsP s ≤ l) :
    Calls Try.prog 14 #[.slice A l c] w (GivesP w (if (readH s).pad = true ∧ padP s = 0 then zeroP else packOf s) (if (readH s).pad = true ∧ padP s = 0 then 5 else 0)) := by
  have hat : readN s ≤ l := by rw [← hs.len]; exact (readH_right h).2.2.2.2
  have HW := Lib.hid (fun W hs => hread_any A l c s W hs (by omega))
  rw [h] at HW
  have hwl : wordsP s < 65536 := num_lt2 s _
  have hwd : num (((s.drop (readN s)).drop 2).take 2) = wordsP s := by rw [List.drop_drop]; rfl
  have hat2 : atP s = readN s + (if (readH s).ext = true then 4 + 4 * wordsP s else 0) := rfl
  have hpd : padP s = if (readH s).pad = true then trailN (s.drop (atP s)) else 0 := rfl
  have hof : packOf s = ⟨readH s, if (readH s).ext = true then num ((s.drop (readN s)).take 2) else 0, if (readH s).ext = true then (s.drop (readN s + 4)).take (4 * wordsP s) else [], (s.drop (atP s)).take (s.length - padP s - atP s), padP s⟩ := rfl
  have HX : Hid (∀ W A1 c1, Bs W A1 (l - readN s) c1 (s.drop (readN s)) → readN s + 4 + 4 * wordsP s ≤ l → Calls Try.prog 21 #[.slice A1 (l - readN s) c1] W fun e w' => ∃ A' c', e = .returned (.tuple #[.int .u16 (num ((s.drop (readN s)).take 2)), .slice A' (4 * wordsP s) c', .int .i64 0]) ∧ Own w' W.heap.size 5 A' (4 * wordsP s) c' ((s.drop (readN s + 4)).take (4 * wordsP s)) ∧ Below W.heap.size W w') := Lib.hid (fun W A1 c1 hs1 hle =>
    prx_yes A1 (l - readN s) c1 _ (wordsP s) _ _ W hs1 hwd (by omega) rfl (by rw [List.drop_drop]))
  rw [hs.len] at hof
  clear hwd
  generalize num ((s.drop (readN s)).take 2) = pr0 at *
  generalize wordsP s = lw at *
  generalize atP s = at2 at *
  generalize padP s = pv at *
  generalize packOf s = pk at *
  generalize readH s = hh at *
  generalize readN s = at0 at *
  obtain ⟨pd, ex, mk, t, q, ti, ss, lst⟩ := hh
  simp only at hx hat2 hpd hof ⊢
  obtain ⟨pr, hpr⟩ : ∃ pr, pr = if ex = true then pr0 else 0 := ⟨_, rfl⟩
  obtain ⟨E, hE⟩ : ∃ E, E = if ex = true then (s.drop (at0 + 4)).take (4 * lw) else [] := ⟨_, rfl⟩
  obtain ⟨en, hen⟩ : ∃ en, en = if ex = true then 4 * lw else 0 := ⟨_, rfl⟩
  rw [← hpr, ← hE] at hof
  have hat2l : at2 ≤ l := by
    rw [hat2]; split
    · have := hx (by assumption); omega
    · omega
  obtain ⟨m, hm⟩ : ∃ m, m = l - at2 := ⟨_, rfl⟩
  rw [show l - pv - at2 = m - pv by omega] at hof
  have hm1 : m + at2 ≤ l := by omega
  have HM := Lib.hid hm
  clear hm
  have HPR := Lib.hid hpr
  have HE := Lib.hid hE
  have HEN := Lib.hid hen
  have HAT := Lib.hid hat2
  have HPD := Lib.hid hpd
  have HOF := Lib.hid hof
  generalize hrp : (if pd = true ∧ pv = 0 then zeroP else pk) = rk
  generalize her : (if pd = true ∧ pv = 0 then 5 else 0) = er
  have HRP := Lib.hid hrp
  have HER := Lib.hid her
  clear hpr hE hen hat2 hpd hof h hrp her
  have k1 := Box.new w zeroCells 45
  have hB := below1 w (.cells #[.bool false, .bool false, .bool false, .int .i64 0, .int .u16 0, .int .u32 0, .int .u32 0, .slice none 0 0, .int .u16 0, .slice none 0 0, .slice none 0 0, .int .i64 0] 45)
  go_enter Try.func14, Try.ntmps14
  go_wp2_with fail
  refine (HW.out _ (hs.alloc _)).mono ?_
  rintro x w2 ⟨B2, d2, rfl, hus, hb⟩
  dsimp only [hdV] at hus ⊢
  have hs2 := ((hs.alloc _).below hb)
  replace k1 := k1.call hb
  replace hB := hB.trans (hb.mono (by simp))
  have hsz := hB.size
  have hlt := k1.2.2
  have k2 := (k1.alloc (.cells #[.bool pd, .bool ex, .bool mk, .int .i64 t, .int .u16 q, .int .u32 ti, .int .u32 ss, .slice B2 lst.length d2] 43)).alloc (.cells #[.bool pd, .bool ex, .bool mk, .int .i64 t, .int .u16 q, .int .u32 ti, .int .u32 ss, .slice B2 lst.length d2, .int .u16 0, .slice none 0 0, .slice none 0 0, .int .i64 0] 45)
  have hB2 := below2 w2 (.cells #[.bool pd, .bool ex, .bool mk, .int .i64 t, .int .u16 q, .int .u32 ti, .int .u32 ss, .slice B2 lst.length d2] 43) (.cells #[.bool pd, .bool ex, .bool mk, .int .i64 t, .int .u16 q, .int .u32 ti, .int .u32 ss, .slice B2 lst.length d2, .int .u16 0, .slice none 0 0, .slice none 0 0, .int .i64 0] 45)
  have kh := (Box.new w2 [.bool pd, .bool ex, .bool mk, .int .i64 t, .int .u16 q, .int .u32 ti, .int .u32 ss, .slice B2 lst.length d2] 43).alloc (.cells #[.bool pd, .bool ex, .bool mk, .int .i64 t, .int .u16 q, .int .u32 ti, .int .u32 ss, .slice B2 lst.length d2, .int .u16 0, .slice none 0 0, .slice none 0 0, .int .i64 0] 45)
  have kp := Box.new (w2.alloc (.cells #[.bool pd, .bool ex, .bool mk, .int .i64 t, .int .u16 q, .int .u32 ti, .int .u32 ss, .slice B2 lst.length d2] 43)) [.bool pd, .bool ex, .bool mk, .int .i64 t, .int .u16 q, .int .u32 ti, .int .u32 ss, .slice B2 lst.length d2, .int .u16 0, .slice none 0 0, .slice none 0 0, .int .i64 0] 45
  rw [World.size_alloc] at kp hus
  have kha := kh.eight.1
  go_upto_if 26 with fail
  go_cut [5] (fun x W => ReadX w2 w.heap.size at2 pr en E [.bool pd, .bool ex, .bool mk, .int .i64 t, .int .u16 q, .int .u32 ti, .int .u32 ss, .slice B2 lst.length d2] x W)
  case first =>
    cases ex with
    | false =>
      go_wp2_with fail
      go_meet
      refine ⟨none, 0, ?_, k2, kh, ?_, ?_, hB2⟩
      · rw [HAT.out]; simp
      · rw [HPR.out, HEN.out]; exact kp
      · rw [HE.out, HEN.out]; exact Own.nil _ _ _
    | true =>
      have hxl := hx rfl
      obtain ⟨A1, c1, hsl, hX⟩ := hs2.slice_l Try.underlying22 byte_size (a := at0) hat
      have hsl2 := fun W => hsl W (at0 : Int) rfl
      clear hsl
      go_wp2_with fail
      refine (HX.out _ A1 c1 ((hX.alloc _).alloc _) hxl).mono ?_
      rintro e w3 ⟨A6, c6, rfl, hown6, hb3⟩
      clear kha
      replace kp := kp.call hb3
      replace k2 := k2.call hb3
      replace kh := kh.call hb3
      replace hB2 := hB2.trans (hb3.mono (by simp; omega))
      have kpa := kp.all12.1
      have kpf := kp.free12
      have r8 := kp.set 8 (.int .u16 pr0) (by simp)
      have r9 := r8.set 9 (.slice A6 (4 * lw) c6) (by simp)
      have z9 := (k2.other (p := ⟨w2.heap.size + 1, 8, none⟩) (.int .u16 pr0) (by simp; omega)).other (p := ⟨w2.heap.size + 1, 9, none⟩) (.slice A6 (4 * lw) c6) (by simp; omega)
      have h9 := (kh.other (p := ⟨w2.heap.size + 1, 8, none⟩) (.int .u16 pr0) (by simp)).other (p := ⟨w2.heap.size + 1, 9, none⟩) (.slice A6 (4 * lw) c6) (by simp)
      have hBs := (hB2.setCell (p := ⟨w2.heap.size + 1, 8, none⟩) (by simp) (.int .u16 pr0)).setCell (p := ⟨w2.heap.size + 1, 9, none⟩) (by simp) (.slice A6 (4 * lw) c6)
      have r8a := r8.all12.1
      have r8f := r8.free12
      have r9a := r9.all12.1
      go_wp2_with fail
      go_meet
      have hown7 : Own w3 (w2.heap.size + 2) 5 A6 (4 * lw) c6 ((s.drop (at0 + 4)).take (4 * lw)) := hown6.mono (by simp)
      have hfar : some (w2.heap.size + 1) ≠ rowOf A6 := fun e => by have := rowV_ge hown7 _ e.symm; omega
      refine ⟨A6, c6, ?_, z9, h9, ?_, ?_, hBs⟩
      · rw [HAT.out]; simp <;> omega
      · rw [HPR.out, HEN.out]
        exact r9
      · rw [HE.out.trans (if_pos (by simp)), HEN.out.trans (if_pos (by simp))]
        exact rowV_other (p := ⟨w2.heap.size + 1, 9, none⟩) (rowV_other (p := ⟨w2.heap.size + 1, 8, none⟩) hown7 _ hfar) _ hfar
  case rest =>
    obtain ⟨Be, ce, rfl, q2, qh, qp, hEo, hB3⟩ := hcut
    clear k1 k2 kh kp kha hB2 hb
    have qha := qh.eight.1
    have hs4 := hs2.below hB3
    obtain ⟨A9, c9, hsl9, hb9⟩ := hs4.slice_l Try.underlying22 byte_size (a := at2) hat2l
    rw [← HM.out] at hsl9 hb9
    have hsl9' := fun W => hsl9 W (at2 : Int) rfl
    clear hsl9
    cases pd with
    | false =>
      obtain rfl : pv = 0 := by simpa using HPD.out
      have hB0 := hB3
      have rp := qp
      have r2 := q2
      have rE := hEo
      have hbl := hb9
      obtain ⟨A1, c1, hsl, hY⟩ := hbl.slice_r Try.underlying22 byte_size (r := m) (by omega)
      have hsl2 := fun W => hsl W (m : Int) (by omega)
      clear hsl
      have hYl := hY.len
      have HYl := Lib.hid hYl
      clear hYl
      have hltp := qp.2.2
      have kpe := rp.all12.1
      go_wp2_with fail
      have HJ := Lib.hid (join1 A1 m c1 _ _ hY (by omega))
      (try rw [World.size_setCell] at HJ)
      refine HJ.out.mono ?_
      rintro e w7 ⟨A7, c7, rfl, hown7, hb8⟩
      clear kpe
      have rp7 := rp.call hb8
      have r27 := r2.call hb8
      have hB7 := hB0.trans (hb8.mono hB0.size)
      have kpa7 := rp7.all12.1
      have kpf7 := rp7.free12
      have rp8 := rp7.set 10 (.slice A7 m c7) (by simp)
      have r28 := r27.other (p := ⟨w2.heap.size + 1, 10, none⟩) (.slice A7 m c7) (by simp; omega)
      have kp8 := rp8.all12.1
      have k28 := r28.all12.1
      have kf28 := r28.free12
      have KQ := Lib.hid (r28.put12 (.bool false) (.bool ex) (.bool mk) (.int .i64 t) (.int .u16 q) (.int .u32 ti) (.int .u32 ss) (.slice B2 lst.length d2) (.int .u16 pr) (.slice Be en ce) (.slice A7 m c7) (.int .i64 0))
      go_wp2_with fail
      clear kpa7 kpf7 kp8 k28 kf28
      change bodyPost _ _ _ _ _ (put12 _ w.heap.size (.bool false) (.bool ex) (.bool mk) (.int .i64 t) (.int .u16 q) (.int .u32 ti) (.int .u32 ss) (.slice B2 lst.length d2) (.int .u16 pr) (.slice Be en ce) (.slice A7 m c7) (.int .i64 0))
      have kz := KQ.out.all12.1
      have hs0 := hB0.size
      have hfar7 : some (w2.heap.size + 1) ≠ rowOf A7 := fun e => by have := rowV_ge hown7 _ e.symm; (try simp at this); omega
      have hfar8 : some w.heap.size ≠ rowOf A7 := fun e => by have := rowV_ge hown7 _ e.symm; (try simp at this); omega
      have hfarE : some (w2.heap.size + 1) ≠ rowOf Be := fun e => by have := rowV_ge rE _ e.symm; omega
      have hfarE2 : some w.heap.size ≠ rowOf Be := fun e => by have := rowV_ge rE _ e.symm; omega
      have hfarB : some (w2.heap.size + 1) ≠ rowOf B2 := fun e => by have := rowV_lt hus _ e.symm; omega
      have hfarB2 : some w.heap.size ≠ rowOf B2 := fun e => by have := rowV_ge hus _ e.symm; omega
      have p7 := Sl.of_own (rowV_put12 (rowV_other (p := ⟨w2.heap.size + 1, 10, none⟩) hown7 (.slice A7 m c7) hfar7) hfar8 (.bool false) (.bool ex) (.bool mk) (.int .i64 t) (.int .u16 q) (.int .u32 ti) (.int .u32 ss) (.slice B2 lst.length d2) (.int .u16 pr) (.slice Be en ce) (.slice A7 m c7) (.int .i64 0))
      have pE := Sl.of_own (rowV_put12 (rowV_other (p := ⟨w2.heap.size + 1, 10, none⟩) (rowV_below rE hb8) (.slice A7 m c7) hfarE) hfarE2 (.bool false) (.bool ex) (.bool mk) (.int .i64 t) (.int .u16 q) (.int .u32 ti) (.int .u32 ss) (.slice B2 lst.length d2) (.int .u16 pr) (.slice Be en ce) (.slice A7 m c7) (.int .i64 0))
      have pB := Sl.of_own (rowV_put12 (rowV_other (p := ⟨w2.heap.size + 1, 10, none⟩) (rowV_below hus hB7) (.slice A7 m c7) hfarB) hfarB2 (.bool false) (.bool ex) (.bool mk) (.int .i64 t) (.int .u16 q) (.int .u32 ti) (.int .u32 ss) (.slice B2 lst.length d2) (.int .u16 pr) (.slice Be en ce) (.slice A7 m c7) (.int .i64 0))
      have hBq := below_put12 ((hB.trans (hB7.mono hsz)).setCell (p := ⟨w2.heap.size + 1, 10, none⟩) (by simp; omega) (.slice A7 m c7)) (Nat.le_refl w.heap.size) (.bool false) (.bool ex) (.bool mk) (.int .i64 t) (.int .u16 q) (.int .u32 ti) (.int .u32 ss) (.slice B2 lst.length d2) (.int .u16 pr) (.slice Be en ce) (.slice A7 m c7) (.int .i64 0)
      generalize put12 _ w.heap.size (.bool false) (.bool ex) (.bool mk) (.int .i64 t) (.int .u16 q) (.int .u32 ti) (.int .u32 ss) (.slice B2 lst.length d2) (.int .u16 pr) (.slice Be en ce) (.slice A7 m c7) (.int .i64 0) = wq at *
      have hrk : rk = ⟨⟨false, ex, mk, t, q, ti, ss, lst⟩, pr, E, (s.drop at2).take m, (0 : Nat)⟩ := (HRP.out).symm.trans ((if_neg (by simp <;> omega)).trans HOF.out)
      have her : er = 0 := (HER.out).symm.trans (if_neg (by simp <;> omega))
      have hEl := Own.len rE
      have hYl := HYl.out
      clear hfar7 hfar8 hfarE hfarE2 hfarB hfarB2
      subst hrk her
      refine bodyPost_ret (v := .tuple #[.agg #[.bool false, .bool ex, .bool mk, .int .i64 t, .int .u16 q, .int .u32 ti, .int .u32 ss, .slice B2 lst.length d2, .int .u16 pr, .slice Be en ce, .slice A7 m c7, .int .i64 0], .int .i64 0]) (by simp [results, Try.results14, go_sem, *]) rfl ⟨B2, d2, Be, ce, A7, c7, ?_, ?_, hBq⟩
      · simp only [pkV, hEl, hYl]
        rfl
      · simp only [hEl, hYl]
        exact ⟨pB, pE, p7⟩
    | true =>
      have hpvd : pv = trailN (s.drop at2) := by simpa using HPD.out
      have htl := trailN_le (s.drop at2)
      rw [hb9.len] at htl
      have htb := trailN_lt (s.drop at2)
      have T := trail_any A9 m c9 (s.drop at2) wc hb9
      have r2 := q2.other (p := ⟨w2.heap.size + 1, 11, none⟩) (.int .i64 pv) (by simp; omega)
      have hB0 := hB3.setCell (p := ⟨w2.heap.size + 1, 11, none⟩) (by simp) (.int .i64 pv)
      have qpa := qp.all12.1
      have qpf := qp.free12
      by_cases hp0 : pv = 0
      · rw [trailE_no (by omega)] at T
        rw [← hpvd] at T htl htb
        have HT := Lib.hid T
        clear T hpvd
        have hz : ((pv : Int) == 0) = true := by rw [beq_iff_eq]; omega
        have HRK : Hid (rk = zeroP) := Lib.hid ((HRP.out).symm.trans (if_pos ⟨rfl, hp0⟩))
        have HE5 : Hid (er = 5) := Lib.hid ((HER.out).symm.trans (if_pos ⟨rfl, hp0⟩))
        clear hp0
        have ka := r2.all12.1
        have kf := r2.free12
        have KQ := Lib.hid (r2.put12 (.bool false) (.bool false) (.bool false) (.int .i64 0) (.int .u16 0) (.int .u32 0) (.int .u32 0) (.slice none 0 0) (.int .u16 0) (.slice none 0 0) (.slice none 0 0) (.int .i64 0))
        have HBq := Lib.hid (below_put12 (hB.trans (hB0.mono hsz)) (Nat.le_refl w.heap.size) (.bool false) (.bool false) (.bool false) (.int .i64 0) (.int .u16 0) (.int .u32 0) (.int .u32 0) (.slice none 0 0) (.int .u16 0) (.slice none 0 0) (.slice none 0 0) (.int .i64 0))
        go_wp2_with fail
        refine (HT.out).mono ?_
        rintro e w' ⟨rfl, rfl⟩
        go_wp2_with fail
        clear ka kf qpa qpf qha
        change bodyPost _ _ _ _ _ (put12 _ w.heap.size (.bool false) (.bool false) (.bool false) (.int .i64 0) (.int .u16 0) (.int .u32 0) (.int .u32 0) (.slice none 0 0) (.int .u16 0) (.slice none 0 0) (.slice none 0 0) (.int .i64 0))
        have kz := KQ.out.all12.1
        have hBq := HBq.out
        generalize put12 _ w.heap.size (.bool false) (.bool false) (.bool false) (.int .i64 0) (.int .u16 0) (.int .u32 0) (.int .u32 0) (.slice none 0 0) (.int .u16 0) (.slice none 0 0) (.slice none 0 0) (.int .i64 0) = wq at *
        rw [HRK.out, HE5.out]
        exact bodyPost_ret (v := .tuple #[pkV zeroP none 0 0 none 0 0 none 0 0, .int .i64 ((5 : Nat) : Int)]) (by simp [results, Try.results14, go_sem, pkV, zeroP, zeroH, *]) rfl ⟨none, 0, none, 0, none, 0, rfl, PkIn.zero _, hBq⟩
      · rw [trailE_yes (by omega)] at T
        rw [← hpvd] at T htl htb
        have HT := Lib.hid T
        clear T hpvd
        have hz : ((pv : Int) == 0) = false := by rw [beq_eq_false_iff_ne]; omega
        have rp : Box (wc.setCell ⟨w2.heap.size + 1, 11, none⟩ (.int .i64 pv)) (w2.heap.size + 1) [.bool true, .bool ex, .bool mk, .int .i64 t, .int .u16 q, .int .u32 ti, .int .u32 ss, .slice B2 lst.length d2, .int .u16 pr, .slice Be en ce, .slice none 0 0, .int .i64 pv] := qp.set 11 _ (by simp)
        have hfar11 : some (w2.heap.size + 1) ≠ rowOf Be := fun e => by have := rowV_ge hEo _ e.symm; omega
        have hbl := Bs.setOther (p := ⟨w2.heap.size + 1, 11, none⟩) hb9 (.int .i64 pv) qpa.2.2.2.2.2.2.2.2.2.2.2 (fun x e => by unfold byteV at e; injection e with e1; cases e1)
        have rE := rowV_other (p := ⟨w2.heap.size + 1, 11, none⟩) hEo (.int .i64 pv) hfar11
        go_wp2_with fail
        refine (HT.out).mono ?_
        rintro e w' ⟨rfl, rfl⟩
        clear HT
        obtain ⟨A1, c1, hsl, hY⟩ := hbl.slice_r Try.underlying22 byte_size (r := (m - pv)) (by omega)
        have hsl2 := fun W => hsl W ((m : Int) - pv) (by omega)
        clear hsl
        have hYl := hY.len
        have HYl := Lib.hid hYl
        clear hYl
        have hltp := qp.2.2
        have kpe := rp.all12.1
        go_wp2_with fail
        have HJ := Lib.hid (join1 A1 (m - pv) c1 _ _ hY (by omega))
        (try rw [World.size_setCell] at HJ)
        refine HJ.out.mono ?_
        rintro e w7 ⟨A7, c7, rfl, hown7, hb8⟩
        clear kpe
        have rp7 := rp.call hb8
        have r27 := r2.call hb8
        have hB7 := hB0.trans (hb8.mono hB0.size)
        have kpa7 := rp7.all12.1
        have kpf7 := rp7.free12
        have rp8 := rp7.set 10 (.slice A7 (m - pv) c7) (by simp)
        have r28 := r27.other (p := ⟨w2.heap.size + 1, 10, none⟩) (.slice A7 (m - pv) c7) (by simp; omega)
        have kp8 := rp8.all12.1
        have k28 := r28.all12.1
        have kf28 := r28.free12
        have KQ := Lib.hid (r28.put12 (.bool true) (.bool ex) (.bool mk) (.int .i64 t) (.int .u16 q) (.int .u32 ti) (.int .u32 ss) (.slice B2 lst.length d2) (.int .u16 pr) (.slice Be en ce) (.slice A7 (m - pv) c7) (.int .i64 pv))
        go_wp2_with fail
        clear kpa7 kpf7 kp8 k28 kf28
        change bodyPost _ _ _ _ _ (put12 _ w.heap.size (.bool true) (.bool ex) (.bool mk) (.int .i64 t) (.int .u16 q) (.int .u32 ti) (.int .u32 ss) (.slice B2 lst.length d2) (.int .u16 pr) (.slice Be en ce) (.slice A7 (m - pv) c7) (.int .i64 pv))
        have kz := KQ.out.all12.1
        have hs0 := hB0.size
        have hfar7 : some (w2.heap.size + 1) ≠ rowOf A7 := fun e => by have := rowV_ge hown7 _ e.symm; (try simp at this); omega
        have hfar8 : some w.heap.size ≠ rowOf A7 := fun e => by have := rowV_ge hown7 _ e.symm; (try simp at this); omega
        have hfarE : some (w2.heap.size + 1) ≠ rowOf Be := fun e => by have := rowV_ge rE _ e.symm; omega
        have hfarE2 : some w.heap.size ≠ rowOf Be := fun e => by have := rowV_ge rE _ e.symm; omega
        have hfarB : some (w2.heap.size + 1) ≠ rowOf B2 := fun e => by have := rowV_lt hus _ e.symm; omega
        have hfarB2 : some w.heap.size ≠ rowOf B2 := fun e => by have := rowV_ge hus _ e.symm; omega
        have p7 := Sl.of_own (rowV_put12 (rowV_other (p := ⟨w2.heap.size + 1, 10, none⟩) hown7 (.slice A7 (m - pv) c7) hfar7) hfar8 (.bool true) (.bool ex) (.bool mk) (.int .i64 t) (.int .u16 q) (.int .u32 ti) (.int .u32 ss) (.slice B2 lst.length d2) (.int .u16 pr) (.slice Be en ce) (.slice A7 (m - pv) c7) (.int .i64 pv))
        have pE := Sl.of_own (rowV_put12 (rowV_other (p := ⟨w2.heap.size + 1, 10, none⟩) (rowV_below rE hb8) (.slice A7 (m - pv) c7) hfarE) hfarE2 (.bool true) (.bool ex) (.bool mk) (.int .i64 t) (.int .u16 q) (.int .u32 ti) (.int .u32 ss) (.slice B2 lst.length d2) (.int .u16 pr) (.slice Be en ce) (.slice A7 (m - pv) c7) (.int .i64 pv))
        have pB := Sl.of_own (rowV_put12 (rowV_other (p := ⟨w2.heap.size + 1, 10, none⟩) (rowV_below hus hB7) (.slice A7 (m - pv) c7) hfarB) hfarB2 (.bool true) (.bool ex) (.bool mk) (.int .i64 t) (.int .u16 q) (.int .u32 ti) (.int .u32 ss) (.slice B2 lst.length d2) (.int .u16 pr) (.slice Be en ce) (.slice A7 (m - pv) c7) (.int .i64 pv))
        have hBq := below_put12 ((hB.trans (hB7.mono hsz)).setCell (p := ⟨w2.heap.size + 1, 10, none⟩) (by simp; omega) (.slice A7 (m - pv) c7)) (Nat.le_refl w.heap.size) (.bool true) (.bool ex) (.bool mk) (.int .i64 t) (.int .u16 q) (.int .u32 ti) (.int .u32 ss) (.slice B2 lst.length d2) (.int .u16 pr) (.slice Be en ce) (.slice A7 (m - pv) c7) (.int .i64 pv)
        generalize put12 _ w.heap.size (.bool true) (.bool ex) (.bool mk) (.int .i64 t) (.int .u16 q) (.int .u32 ti) (.int .u32 ss) (.slice B2 lst.length d2) (.int .u16 pr) (.slice Be en ce) (.slice A7 (m - pv) c7) (.int .i64 pv) = wq at *
        have hrk : rk = ⟨⟨true, ex, mk, t, q, ti, ss, lst⟩, pr, E, (s.drop at2).take (m - pv), (pv : Nat)⟩ := (HRP.out).symm.trans ((if_neg (by simp <;> omega)).trans HOF.out)
        have her : er = 0 := (HER.out).symm.trans (if_neg (by simp <;> omega))
        have hEl := Own.len rE
        have hYl := HYl.out
        clear hfar7 hfar8 hfarE hfarE2 hfarB hfarB2
        subst hrk her
        refine bodyPost_ret (v := .tuple #[.agg #[.bool true, .bool ex, .bool mk, .int .i64 t, .int .u16 q, .int .u32 ti, .int .u32 ss, .slice B2 lst.length d2, .int .u16 pr, .slice Be en ce, .slice A7 (m - pv) c7, .int .i64 pv], .int .i64 0]) (by simp [results, Try.results14, go_sem, *]) rfl ⟨B2, d2, Be, ce, A7, c7, ?_, ?_, hBq⟩
        · simp only [pkV, hEl, hYl]
          rfl
        · simp only [hEl, hYl]
          exact ⟨pB, pE, p7⟩

end Go.Proofs.Ytogjkkhboaflcaa

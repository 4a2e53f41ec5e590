/-
  What the document's own answers for layer 6 come to: Read, where the extension lies within the bytes. (Written by gen_PackR5.py.)
-/
import Derived.Test.YtogjkkhboaflcaaPackR4
namespace Go.Proofs.Ytogjkkhboaflcaa
open Go.RowKit
set_option linter.unusedVariables false
set_option linter.unusedSimpArgs false

theorem byte_size6 : ∀ w, (Go.sizeOf 5).run Try.prog w = .ok 1 w := run_size_one byte_info
/-- What stands where the ways meet behind the extension. -/
def ReadX (w2 : World) (z : Nat) (at2 pr en : Nat) (E : List UInt8) (hd : List Value) (x : Value) (W : World) : Prop :=
  ∃ Be ce, x = .int .i64 at2 ∧ Box W z zeroCells ∧ Box W w2.heap.size hd ∧ Box W (w2.heap.size + 1) (hd ++ [.int .u16 pr, .slice Be en ce, .slice none 0 0, .int .i64 0]) ∧ Own W (w2.heap.size + 2) 5 Be en ce E ∧ Below w2.heap.size w2 W

set_option maxRecDepth 100000 in
set_option maxHeartbeats 2000000 in
theorem rpread_rest (A : Option Addr) (l c : Nat) (s : List UInt8) (w : World) (hs : Bs w A l c s) (hl : l ≤ 65535) (h : hErr s = 0) (hx : (readH s).ext = true → readN s + 4 + 4 * wordsP s ≤ l) :
    Calls Try.prog 17 #[.slice A l c] w (GivesP w (if (readH s).pad = true ∧ padP s = 0 then zeroP else packOf s) (if (readH s).pad = true ∧ padP s = 0 then 5 else 0)) := by
  have hat : readN s ≤ l := by rw [← hs.len]; exact (readH_right h).2.2.2.2
  have HW := Lib.hid (fun W hs => rhread_own A l c s W hs (by omega))
  rw [h] at HW
  have hwl : wordsP s < 65536 := num_lt2 s _
  have hpl := num_lt2 s (readN s)
  have hat2 : atP s = readN s + (if (readH s).ext = true then 4 + 4 * wordsP s else 0) := rfl
  have hpd : padP s = if (readH s).pad = true then trailN (s.drop (atP s)) else 0 := rfl
  have hof : packOf s = ⟨readH s, if (readH s).ext = true then num ((s.drop (readN s)).take 2) else 0, if (readH s).ext = true then (s.drop (readN s + 4)).take (4 * wordsP s) else [], (s.drop (atP s)).take (s.length - padP s - atP s), padP s⟩ := rfl
  have HN2 : Hid (∀ W (a : Int), Bs W A l c s → a = ((readN s + 2 : Nat) : Int) → readN s + 4 ≤ l → Calls Try.prog 27 #[.slice A l c, .int .i64 a, .int .i64 2] W fun e w' => e = .returned (.int .u32 (wordsP s)) ∧ w' = W) := Lib.hid (fun W a hs ha hl => rnum_any A l c s a (readN s + 2) 2 2 W hs ha (.inl rfl) (by omega) rfl)
  have HN0 : Hid (∀ W (a : Int), Bs W A l c s → a = ((readN s : Nat) : Int) → readN s + 4 ≤ l → Calls Try.prog 27 #[.slice A l c, .int .i64 a, .int .i64 2] W fun e w' => e = .returned (.int .u32 (num ((s.drop (readN s)).take 2))) ∧ w' = W) := Lib.hid (fun W a hs ha hl => rnum_any A l c s a (readN s) 2 2 W hs ha (.inl rfl) (by omega) rfl)
  rw [hs.len] at hof
  generalize wordsP s = lw at *
  generalize num ((s.drop (readN s)).take 2) = pr0 at *
  generalize atP s = at2 at *
  generalize padP s = pv at *
  generalize packOf s = pk at *
  generalize readH s = hh at *
  generalize readN s = at0 at *
  obtain ⟨pd, ex, mk, t, q, ti, ss, lst⟩ := hh
  simp only at hx hat2 hpd hof ⊢
  obtain ⟨pr, hpr⟩ : ∃ pr, pr = if ex = true then pr0 else 0 := ⟨_, rfl⟩
  obtain ⟨E, hE⟩ : ∃ E, E = if ex = true then (s.drop (at0 + 4)).take (4 * lw) else [] := ⟨_, rfl⟩
  obtain ⟨en, hen⟩ : ∃ en, en = if ex = true then 4 * lw else 0 := ⟨_, rfl⟩
  rw [← hpr, ← hE] at hof
  have hat2l : at2 ≤ l := by
    rw [hat2]; split
    · have := hx (by assumption); omega
    · omega
  have HPR := Lib.hid hpr
  have HE := Lib.hid hE
  have HEN := Lib.hid hen
  have HAT := Lib.hid hat2
  have HPD := Lib.hid hpd
  have HOF := Lib.hid hof
  generalize hrp : (if pd = true ∧ pv = 0 then zeroP else pk) = rk
  generalize her : (if pd = true ∧ pv = 0 then 5 else 0) = er
  have HRP := Lib.hid hrp
  have HER := Lib.hid her
  clear hpr hE hen hat2 hpd hof h hrp her
  have k1 := Box.new w zeroCells 45
  have hB := below1 w (.cells #[.bool false, .bool false, .bool false, .int .i64 0, .int .u16 0, .int .u32 0, .int .u32 0, .slice none 0 0, .int .u16 0, .slice none 0 0, .slice none 0 0, .int .i64 0] 45)
  go_enter Try.func17, Try.ntmps17
  go_wp2_with fail
  refine (HW.out _ (hs.alloc _)).mono ?_
  rintro x w2 ⟨B2, d2, rfl, hus, hb⟩
  dsimp only [hdV] at hus ⊢
  have hs2 := ((hs.alloc _).below hb)
  replace k1 := k1.call hb
  replace hB := hB.trans (hb.mono (by simp))
  have hsz := hB.size
  have hlt := k1.2.2
  have k2 := (k1.alloc (.cells #[.bool pd, .bool ex, .bool mk, .int .i64 t, .int .u16 q, .int .u32 ti, .int .u32 ss, .slice B2 lst.length d2] 43)).alloc (.cells #[.bool pd, .bool ex, .bool mk, .int .i64 t, .int .u16 q, .int .u32 ti, .int .u32 ss, .slice B2 lst.length d2, .int .u16 0, .slice none 0 0, .slice none 0 0, .int .i64 0] 45)
  have hB2 := below2 w2 (.cells #[.bool pd, .bool ex, .bool mk, .int .i64 t, .int .u16 q, .int .u32 ti, .int .u32 ss, .slice B2 lst.length d2] 43) (.cells #[.bool pd, .bool ex, .bool mk, .int .i64 t, .int .u16 q, .int .u32 ti, .int .u32 ss, .slice B2 lst.length d2, .int .u16 0, .slice none 0 0, .slice none 0 0, .int .i64 0] 45)
  have kh := (Box.new w2 [.bool pd, .bool ex, .bool mk, .int .i64 t, .int .u16 q, .int .u32 ti, .int .u32 ss, .slice B2 lst.length d2] 43).alloc (.cells #[.bool pd, .bool ex, .bool mk, .int .i64 t, .int .u16 q, .int .u32 ti, .int .u32 ss, .slice B2 lst.length d2, .int .u16 0, .slice none 0 0, .slice none 0 0, .int .i64 0] 45)
  have kp := Box.new (w2.alloc (.cells #[.bool pd, .bool ex, .bool mk, .int .i64 t, .int .u16 q, .int .u32 ti, .int .u32 ss, .slice B2 lst.length d2] 43)) [.bool pd, .bool ex, .bool mk, .int .i64 t, .int .u16 q, .int .u32 ti, .int .u32 ss, .slice B2 lst.length d2, .int .u16 0, .slice none 0 0, .slice none 0 0, .int .i64 0] 45
  rw [World.size_alloc] at kp hus
  have ka := k2.all12.1
  have kf := k2.free12
  have kha := kh.eight.1
  have kpa := kp.all12.1
  have kpf := kp.free12
  go_upto_if 26 with fail
  go_cut [5] (fun x W => ReadX w2 w.heap.size at2 pr en E [.bool pd, .bool ex, .bool mk, .int .i64 t, .int .u16 q, .int .u32 ti, .int .u32 ss, .slice B2 lst.length d2] x W)
  case first =>
    cases ex with
    | false =>
      go_wp2_with fail
      go_meet
      refine ⟨none, 0, ?_, k2, kh, ?_, ?_, hB2⟩
      · rw [HAT.out]; simp
      · rw [HPR.out, HEN.out]; exact kp
      · rw [HE.out, HEN.out]; exact Own.nil _ _ _
    | true =>
      have hxl := hx rfl
      have hs3 := (hs2.alloc (.cells #[.bool pd, .bool true, .bool mk, .int .i64 t, .int .u16 q, .int .u32 ti, .int .u32 ss, .slice B2 lst.length d2] 43)).alloc (.cells #[.bool pd, .bool true, .bool mk, .int .i64 t, .int .u16 q, .int .u32 ti, .int .u32 ss, .slice B2 lst.length d2, .int .u16 0, .slice none 0 0, .slice none 0 0, .int .i64 0] 45)
      obtain ⟨A1, c1, hsl, hX⟩ := hs2.slice_lr Try.underlying22 byte_size6 (a := at0 + 4) (r := at0 + 4 + 4 * lw) (by omega) (by omega)
      rw [show at0 + 4 + 4 * lw - (at0 + 4) = 4 * lw by omega] at hsl hX
      have hsl2 := fun W => hsl W ((at0 : Int) + 4) ((at0 : Int) + 4 + 4 * lw) (by omega) (by omega)
      clear hsl
      go_wp2_with fail
      refine (HN2.out _ _ hs3 (by omega) (by omega)).mono ?_
      rintro e w' ⟨rfl, rfl⟩
      go_wp2_with fail
      refine (HN0.out _ _ hs3 (by omega) (by omega)).mono ?_
      rintro e w' ⟨rfl, rfl⟩
      have hp16 : ((pr0 : Nat) : Int) % 65536 = pr0 := by omega
      have hemp : Own (((w2.alloc (.cells #[.bool pd, .bool true, .bool mk, .int .i64 t, .int .u16 q, .int .u32 ti, .int .u32 ss, .slice B2 lst.length d2] 43)).alloc (.cells #[.bool pd, .bool true, .bool mk, .int .i64 t, .int .u16 q, .int .u32 ti, .int .u32 ss, .slice B2 lst.length d2, .int .u16 pr0, .slice none 0 0, .slice none 0 0, .int .i64 0] 45)).alloc (.cells #[] 5)) (w2.heap.size + 2) 5 (some ⟨w2.heap.size + 2, 0, none⟩) 0 0 [] := by simpa using own_empty ((w2.alloc (.cells #[.bool pd, .bool true, .bool mk, .int .i64 t, .int .u16 q, .int .u32 ti, .int .u32 ss, .slice B2 lst.length d2] 43)).alloc (.cells #[.bool pd, .bool true, .bool mk, .int .i64 t, .int .u16 q, .int .u32 ti, .int .u32 ss, .slice B2 lst.length d2, .int .u16 pr0, .slice none 0 0, .slice none 0 0, .int .i64 0] 45)) 5 (w2.heap.size + 2) (by simp)
      have hB3 : Below w2.heap.size w2 (((w2.alloc (.cells #[.bool pd, .bool true, .bool mk, .int .i64 t, .int .u16 q, .int .u32 ti, .int .u32 ss, .slice B2 lst.length d2] 43)).alloc (.cells #[.bool pd, .bool true, .bool mk, .int .i64 t, .int .u16 q, .int .u32 ti, .int .u32 ss, .slice B2 lst.length d2, .int .u16 pr0, .slice none 0 0, .slice none 0 0, .int .i64 0] 45)).alloc (.cells #[] 5)) := (below2 w2 (.cells #[.bool pd, .bool true, .bool mk, .int .i64 t, .int .u16 q, .int .u32 ti, .int .u32 ss, .slice B2 lst.length d2] 43) (.cells #[.bool pd, .bool true, .bool mk, .int .i64 t, .int .u16 q, .int .u32 ti, .int .u32 ss, .slice B2 lst.length d2, .int .u16 pr0, .slice none 0 0, .slice none 0 0, .int .i64 0] 45)).alloc (by simp; omega) _
      have hX3 := hX.below hB3
      have q2 := k1.call hB3
      have qh := ((Box.new w2 [.bool pd, .bool true, .bool mk, .int .i64 t, .int .u16 q, .int .u32 ti, .int .u32 ss, .slice B2 lst.length d2] 43).alloc (.cells #[.bool pd, .bool true, .bool mk, .int .i64 t, .int .u16 q, .int .u32 ti, .int .u32 ss, .slice B2 lst.length d2, .int .u16 pr0, .slice none 0 0, .slice none 0 0, .int .i64 0] 45)).alloc (.cells #[] 5)
      have qp := (Box.new (w2.alloc (.cells #[.bool pd, .bool true, .bool mk, .int .i64 t, .int .u16 q, .int .u32 ti, .int .u32 ss, .slice B2 lst.length d2] 43)) [.bool pd, .bool true, .bool mk, .int .i64 t, .int .u16 q, .int .u32 ti, .int .u32 ss, .slice B2 lst.length d2, .int .u16 pr0, .slice none 0 0, .slice none 0 0, .int .i64 0] 45).alloc (.cells #[] 5)
      rw [World.size_alloc] at qp
      go_wp2_with (at_builtin; go_loud (refine wpList_app _ rfl (.tmp 52) (.tmp 60) 22 rfl (w2.heap.size + 2) 5 Try.underlying22 byte_info (some ⟨w2.heap.size + 2, 0, none⟩) 0 0 [] rfl hemp A1 (4 * lw) c1 _ rfl hX3 (by omega) (by simp) ?_); intro A6 c6 w6 hown6 hb6; rw [Nat.zero_add] at hown6; rw [List.nil_append] at hown6; rw [Nat.zero_add]; replace q2 := q2.below hb6 (by omega); replace qh := qh.below hb6 (by omega); replace qp := qp.below hb6 (by omega); replace hB3 := hB3.trans (hb6.mono (by omega)); have qpa := qp.all12.1; have qpf := qp.free12)
      go_meet
      have hfar : some (w2.heap.size + 1) ≠ rowOf A6 := fun e => by have := rowV_ge hown6 _ e.symm; omega
      refine ⟨A6, c6, ?_, q2.other (p := ⟨w2.heap.size + 1, 9, none⟩) _ (by simp; omega), qh.other (p := ⟨w2.heap.size + 1, 9, none⟩) _ (by simp), ?_, ?_, hB3.setCell (p := ⟨w2.heap.size + 1, 9, none⟩) (by simp) _⟩
      · rw [HAT.out]; simp; omega
      · rw [HPR.out, HEN.out]
        exact qp.set 9 _ (by simp)
      · rw [HE.out.trans (if_pos (by simp)), HEN.out.trans (if_pos (by simp))]
        exact rowV_other (p := ⟨w2.heap.size + 1, 9, none⟩) hown6 _ hfar
  case rest =>
    obtain ⟨Be, ce, rfl, q2, qh, qp, hEo, hB3⟩ := hcut
    clear k1 k2 kh kp ka kf kha kpa kpf hB2 hb
    have qha := qh.eight.1
    cases pd with
    | false =>
      obtain rfl : pv = 0 := by simpa using HPD.out
      have hB0 := hB3
      have rp := qp
      have r2 := q2
      have rE := hEo
      have hsr := hs2.below hB0
      obtain ⟨A1, c1, hsl, hY⟩ := hsr.slice_lr Try.underlying22 byte_size6 (a := at2) (r := l) (by omega) (by omega)
      have hsl2 := fun W => hsl W (at2 : Int) (l : Int) rfl (by omega)
      clear hsl
      have hemp : Own ((wc).alloc (.cells #[] 5)) wc.heap.size 5 (some ⟨wc.heap.size, 0, none⟩) 0 0 [] := by simpa using own_empty (wc) 5 wc.heap.size (by simp)
      have hY2 := hY.alloc (.cells #[] 5)
      have hYl := hY.len
      have HYl := Lib.hid hYl
      clear hYl hY
      have hltp := qp.2.2
      have kpe := (rp.alloc (.cells #[] 5)).all12.1
      go_wp2_with (at_builtin; go_loud (refine wpList_app _ rfl (.tmp 78) (.tmp 86) 22 rfl wc.heap.size 5 Try.underlying22 byte_info (some ⟨wc.heap.size, 0, none⟩) 0 0 [] rfl hemp A1 (l - at2) c1 _ rfl hY2 (by omega) (by simp) ?_); intro A7 c7 w7 hown7 hb7; rw [Nat.zero_add] at hown7; rw [List.nil_append] at hown7; rw [Nat.zero_add]; have hb8 : Below (wc).heap.size (wc) w7 := (by have := ((Below.refl wc.heap.size (wc)).alloc (by simp) (.cells #[] 5)).trans hb7; simpa using this); clear kpe; have rp7 := rp.call hb8; have r27 := r2.call hb8; have hB7 := hB0.trans (hb8.mono hB0.size); have kpa7 := rp7.all12.1; have kpf7 := rp7.free12; have rp8 := rp7.set 10 (.slice A7 (l - at2) c7) (by simp); have r28 := r27.other (p := ⟨w2.heap.size + 1, 10, none⟩) (.slice A7 (l - at2) c7) (by simp; omega); have kp8 := rp8.all12.1; have k28 := r28.all12.1; have kf28 := r28.free12; have KQ := Lib.hid (r28.put12 (.bool false) (.bool ex) (.bool mk) (.int .i64 t) (.int .u16 q) (.int .u32 ti) (.int .u32 ss) (.slice B2 lst.length d2) (.int .u16 pr) (.slice Be en ce) (.slice A7 (l - at2) c7) (.int .i64 0)))
      clear kpa7 kpf7 kp8 k28 kf28
      change bodyPost _ _ _ _ _ (put12 _ w.heap.size (.bool false) (.bool ex) (.bool mk) (.int .i64 t) (.int .u16 q) (.int .u32 ti) (.int .u32 ss) (.slice B2 lst.length d2) (.int .u16 pr) (.slice Be en ce) (.slice A7 (l - at2) c7) (.int .i64 0))
      have kz := KQ.out.all12.1
      have hfar7 : some (w2.heap.size + 1) ≠ rowOf A7 := fun e => by have := rowV_ge hown7 _ e.symm; omega
      have hfar8 : some w.heap.size ≠ rowOf A7 := fun e => by have := rowV_ge hown7 _ e.symm; omega
      have hfarE : some (w2.heap.size + 1) ≠ rowOf Be := fun e => by have := rowV_ge rE _ e.symm; omega
      have hfarE2 : some w.heap.size ≠ rowOf Be := fun e => by have := rowV_ge rE _ e.symm; omega
      have hfarB : some (w2.heap.size + 1) ≠ rowOf B2 := fun e => by have := rowV_lt hus _ e.symm; omega
      have hfarB2 : some w.heap.size ≠ rowOf B2 := fun e => by have := rowV_ge hus _ e.symm; omega
      have p7 := Sl.of_own (rowV_put12 (rowV_other (p := ⟨w2.heap.size + 1, 10, none⟩) hown7 (.slice A7 (l - at2) c7) hfar7) hfar8 (.bool false) (.bool ex) (.bool mk) (.int .i64 t) (.int .u16 q) (.int .u32 ti) (.int .u32 ss) (.slice B2 lst.length d2) (.int .u16 pr) (.slice Be en ce) (.slice A7 (l - at2) c7) (.int .i64 0))
      have pE := Sl.of_own (rowV_put12 (rowV_other (p := ⟨w2.heap.size + 1, 10, none⟩) (rowV_below rE hb8) (.slice A7 (l - at2) c7) hfarE) hfarE2 (.bool false) (.bool ex) (.bool mk) (.int .i64 t) (.int .u16 q) (.int .u32 ti) (.int .u32 ss) (.slice B2 lst.length d2) (.int .u16 pr) (.slice Be en ce) (.slice A7 (l - at2) c7) (.int .i64 0))
      have pB := Sl.of_own (rowV_put12 (rowV_other (p := ⟨w2.heap.size + 1, 10, none⟩) (rowV_below hus hB7) (.slice A7 (l - at2) c7) hfarB) hfarB2 (.bool false) (.bool ex) (.bool mk) (.int .i64 t) (.int .u16 q) (.int .u32 ti) (.int .u32 ss) (.slice B2 lst.length d2) (.int .u16 pr) (.slice Be en ce) (.slice A7 (l - at2) c7) (.int .i64 0))
      have hBq := below_put12 ((hB.trans (hB7.mono hsz)).setCell (p := ⟨w2.heap.size + 1, 10, none⟩) (by simp; omega) (.slice A7 (l - at2) c7)) (Nat.le_refl w.heap.size) (.bool false) (.bool ex) (.bool mk) (.int .i64 t) (.int .u16 q) (.int .u32 ti) (.int .u32 ss) (.slice B2 lst.length d2) (.int .u16 pr) (.slice Be en ce) (.slice A7 (l - at2) c7) (.int .i64 0)
      generalize put12 _ w.heap.size (.bool false) (.bool ex) (.bool mk) (.int .i64 t) (.int .u16 q) (.int .u32 ti) (.int .u32 ss) (.slice B2 lst.length d2) (.int .u16 pr) (.slice Be en ce) (.slice A7 (l - at2) c7) (.int .i64 0) = wq at *
      have hrk : rk = ⟨⟨false, ex, mk, t, q, ti, ss, lst⟩, pr, E, (s.drop at2).take (l - at2), (0 : Nat)⟩ := (HRP.out).symm.trans ((if_neg (by simp <;> omega)).trans HOF.out)
      have her : er = 0 := (HER.out).symm.trans (if_neg (by simp <;> omega))
      have hEl := Own.len rE
      have hYl := HYl.out
      subst hrk her
      refine bodyPost_ret (v := .tuple #[.agg #[.bool false, .bool ex, .bool mk, .int .i64 t, .int .u16 q, .int .u32 ti, .int .u32 ss, .slice B2 lst.length d2, .int .u16 pr, .slice Be en ce, .slice A7 (l - at2) c7, .int .i64 0], .int .i64 0]) (by simp [results, Try.results17, go_sem, *]) rfl ⟨B2, d2, Be, ce, A7, c7, ?_, ?_, hBq⟩
      · simp only [pkV, hEl, hYl]
        rfl
      · simp only [hEl, hYl]
        exact ⟨pB, pE, p7⟩
    | true =>
      have hpvd : pv = trailN (s.drop at2) := by simpa using HPD.out
      have hs4 := hs2.below hB3
      obtain ⟨A9, c9, hsl9, hb9⟩ := hs4.slice_l Try.underlying22 byte_size6 (a := at2) hat2l
      have hsl9' := fun W => hsl9 W (at2 : Int) rfl
      have htl := trailN_le (s.drop at2)
      rw [List.length_drop, hs2.len] at htl
      have htb := trailN_lt (s.drop at2)
      have T := rtrail_any A9 (l - at2) c9 (s.drop at2) wc hb9
      rw [← hpvd] at T htl htb
      have HT := Lib.hid T
      clear T hpvd hsl9
      have qpa := qp.all12.1
      have qpf := qp.free12
      have r2 := q2.other (p := ⟨w2.heap.size + 1, 11, none⟩) (.int .i64 pv) (by simp; omega)
      have hB0 := hB3.setCell (p := ⟨w2.heap.size + 1, 11, none⟩) (by simp) (.int .i64 pv)
      by_cases hp0 : pv = 0
      · have hz : ((pv : Int) == 0) = true := by rw [beq_iff_eq]; omega
        have HRK : Hid (rk = zeroP) := Lib.hid ((HRP.out).symm.trans (if_pos ⟨rfl, hp0⟩))
        have HE5 : Hid (er = 5) := Lib.hid ((HER.out).symm.trans (if_pos ⟨rfl, hp0⟩))
        clear hp0
        have ka := r2.all12.1
        have kf := r2.free12
        have KQ := Lib.hid (r2.put12 (.bool false) (.bool false) (.bool false) (.int .i64 0) (.int .u16 0) (.int .u32 0) (.int .u32 0) (.slice none 0 0) (.int .u16 0) (.slice none 0 0) (.slice none 0 0) (.int .i64 0))
        have HBq := Lib.hid (below_put12 (hB.trans (hB0.mono hsz)) (Nat.le_refl w.heap.size) (.bool false) (.bool false) (.bool false) (.int .i64 0) (.int .u16 0) (.int .u32 0) (.int .u32 0) (.slice none 0 0) (.int .u16 0) (.slice none 0 0) (.slice none 0 0) (.int .i64 0))
        go_wp2_with fail
        refine (HT.out).mono ?_
        rintro e w' ⟨rfl, rfl⟩
        go_wp2_with fail
        clear ka kf qpa qpf qha
        change bodyPost _ _ _ _ _ (put12 _ w.heap.size (.bool false) (.bool false) (.bool false) (.int .i64 0) (.int .u16 0) (.int .u32 0) (.int .u32 0) (.slice none 0 0) (.int .u16 0) (.slice none 0 0) (.slice none 0 0) (.int .i64 0))
        have kz := KQ.out.all12.1
        have hBq := HBq.out
        generalize put12 _ w.heap.size (.bool false) (.bool false) (.bool false) (.int .i64 0) (.int .u16 0) (.int .u32 0) (.int .u32 0) (.slice none 0 0) (.int .u16 0) (.slice none 0 0) (.slice none 0 0) (.int .i64 0) = wq at *
        rw [HRK.out, HE5.out]
        exact bodyPost_ret (v := .tuple #[pkV zeroP none 0 0 none 0 0 none 0 0, .int .i64 ((5 : Nat) : Int)]) (by simp [results, Try.results17, go_sem, pkV, zeroP, zeroH, *]) rfl ⟨none, 0, none, 0, none, 0, rfl, PkIn.zero _, hBq⟩
      · have hz : ((pv : Int) == 0) = false := by rw [beq_eq_false_iff_ne]; omega
        have rp : Box (wc.setCell ⟨w2.heap.size + 1, 11, none⟩ (.int .i64 pv)) (w2.heap.size + 1) [.bool true, .bool ex, .bool mk, .int .i64 t, .int .u16 q, .int .u32 ti, .int .u32 ss, .slice B2 lst.length d2, .int .u16 pr, .slice Be en ce, .slice none 0 0, .int .i64 pv] := qp.set 11 _ (by simp)
        have hfar11 : some (w2.heap.size + 1) ≠ rowOf Be := fun e => by have := rowV_ge hEo _ e.symm; omega
        have rE := rowV_other (p := ⟨w2.heap.size + 1, 11, none⟩) hEo (.int .i64 pv) hfar11
        go_wp2_with fail
        refine (HT.out).mono ?_
        rintro e w' ⟨rfl, rfl⟩
        clear hsl9'
        have hsr := hs2.below hB0
        obtain ⟨A1, c1, hsl, hY⟩ := hsr.slice_lr Try.underlying22 byte_size6 (a := at2) (r := (l - pv)) (by omega) (by omega)
        have hsl2 := fun W => hsl W (at2 : Int) ((l : Int) - pv) rfl (by omega)
        clear hsl
        have hemp : Own ((wc.setCell ⟨w2.heap.size + 1, 11, none⟩ (.int .i64 pv)).alloc (.cells #[] 5)) wc.heap.size 5 (some ⟨wc.heap.size, 0, none⟩) 0 0 [] := by simpa using own_empty (wc.setCell ⟨w2.heap.size + 1, 11, none⟩ (.int .i64 pv)) 5 wc.heap.size (by simp)
        have hY2 := hY.alloc (.cells #[] 5)
        have hYl := hY.len
        have HYl := Lib.hid hYl
        clear hYl hY
        have hltp := qp.2.2
        have kpe := (rp.alloc (.cells #[] 5)).all12.1
        go_wp2_with (at_builtin; go_loud (refine wpList_app _ rfl (.tmp 78) (.tmp 86) 22 rfl wc.heap.size 5 Try.underlying22 byte_info (some ⟨wc.heap.size, 0, none⟩) 0 0 [] rfl hemp A1 ((l - pv) - at2) c1 _ rfl hY2 (by omega) (by simp) ?_); intro A7 c7 w7 hown7 hb7; rw [Nat.zero_add] at hown7; rw [List.nil_append] at hown7; rw [Nat.zero_add]; have hb8 : Below (wc.setCell ⟨w2.heap.size + 1, 11, none⟩ (.int .i64 pv)).heap.size (wc.setCell ⟨w2.heap.size + 1, 11, none⟩ (.int .i64 pv)) w7 := (by have := ((Below.refl wc.heap.size (wc.setCell ⟨w2.heap.size + 1, 11, none⟩ (.int .i64 pv))).alloc (by simp) (.cells #[] 5)).trans hb7; simpa using this); clear kpe; have rp7 := rp.call hb8; have r27 := r2.call hb8; have hB7 := hB0.trans (hb8.mono hB0.size); have kpa7 := rp7.all12.1; have kpf7 := rp7.free12; have rp8 := rp7.set 10 (.slice A7 ((l - pv) - at2) c7) (by simp); have r28 := r27.other (p := ⟨w2.heap.size + 1, 10, none⟩) (.slice A7 ((l - pv) - at2) c7) (by simp; omega); have kp8 := rp8.all12.1; have k28 := r28.all12.1; have kf28 := r28.free12; have KQ := Lib.hid (r28.put12 (.bool true) (.bool ex) (.bool mk) (.int .i64 t) (.int .u16 q) (.int .u32 ti) (.int .u32 ss) (.slice B2 lst.length d2) (.int .u16 pr) (.slice Be en ce) (.slice A7 ((l - pv) - at2) c7) (.int .i64 pv)))
        clear kpa7 kpf7 kp8 k28 kf28
        change bodyPost _ _ _ _ _ (put12 _ w.heap.size (.bool true) (.bool ex) (.bool mk) (.int .i64 t) (.int .u16 q) (.int .u32 ti) (.int .u32 ss) (.slice B2 lst.length d2) (.int .u16 pr) (.slice Be en ce) (.slice A7 ((l - pv) - at2) c7) (.int .i64 pv))
        have kz := KQ.out.all12.1
        have hfar7 : some (w2.heap.size + 1) ≠ rowOf A7 := fun e => by have := rowV_ge hown7 _ e.symm; omega
        have hfar8 : some w.heap.size ≠ rowOf A7 := fun e => by have := rowV_ge hown7 _ e.symm; omega
        have hfarE : some (w2.heap.size + 1) ≠ rowOf Be := fun e => by have := rowV_ge rE _ e.symm; omega
        have hfarE2 : some w.heap.size ≠ rowOf Be := fun e => by have := rowV_ge rE _ e.symm; omega
        have hfarB : some (w2.heap.size + 1) ≠ rowOf B2 := fun e => by have := rowV_lt hus _ e.symm; omega
        have hfarB2 : some w.heap.size ≠ rowOf B2 := fun e => by have := rowV_ge hus _ e.symm; omega
        have p7 := Sl.of_own (rowV_put12 (rowV_other (p := ⟨w2.heap.size + 1, 10, none⟩) hown7 (.slice A7 ((l - pv) - at2) c7) hfar7) hfar8 (.bool true) (.bool ex) (.bool mk) (.int .i64 t) (.int .u16 q) (.int .u32 ti) (.int .u32 ss) (.slice B2 lst.length d2) (.int .u16 pr) (.slice Be en ce) (.slice A7 ((l - pv) - at2) c7) (.int .i64 pv))
        have pE := Sl.of_own (rowV_put12 (rowV_other (p := ⟨w2.heap.size + 1, 10, none⟩) (rowV_below rE hb8) (.slice A7 ((l - pv) - at2) c7) hfarE) hfarE2 (.bool true) (.bool ex) (.bool mk) (.int .i64 t) (.int .u16 q) (.int .u32 ti) (.int .u32 ss) (.slice B2 lst.length d2) (.int .u16 pr) (.slice Be en ce) (.slice A7 ((l - pv) - at2) c7) (.int .i64 pv))
        have pB := Sl.of_own (rowV_put12 (rowV_other (p := ⟨w2.heap.size + 1, 10, none⟩) (rowV_below hus hB7) (.slice A7 ((l - pv) - at2) c7) hfarB) hfarB2 (.bool true) (.bool ex) (.bool mk) (.int .i64 t) (.int .u16 q) (.int .u32 ti) (.int .u32 ss) (.slice B2 lst.length d2) (.int .u16 pr) (.slice Be en ce) (.slice A7 ((l - pv) - at2) c7) (.int .i64 pv))
        have hBq := below_put12 ((hB.trans (hB7.mono hsz)).setCell (p := ⟨w2.heap.size + 1, 10, none⟩) (by simp; omega) (.slice A7 ((l - pv) - at2) c7)) (Nat.le_refl w.heap.size) (.bool true) (.bool ex) (.bool mk) (.int .i64 t) (.int .u16 q) (.int .u32 ti) (.int .u32 ss) (.slice B2 lst.length d2) (.int .u16 pr) (.slice Be en ce) (.slice A7 ((l - pv) - at2) c7) (.int .i64 pv)
        generalize put12 _ w.heap.size (.bool true) (.bool ex) (.bool mk) (.int .i64 t) (.int .u16 q) (.int .u32 ti) (.int .u32 ss) (.slice B2 lst.length d2) (.int .u16 pr) (.slice Be en ce) (.slice A7 ((l - pv) - at2) c7) (.int .i64 pv) = wq at *
        have hrk : rk = ⟨⟨true, ex, mk, t, q, ti, ss, lst⟩, pr, E, (s.drop at2).take ((l - pv) - at2), (pv : Nat)⟩ := (HRP.out).symm.trans ((if_neg (by simp <;> omega)).trans HOF.out)
        have her : er = 0 := (HER.out).symm.trans (if_neg (by simp <;> omega))
        have hEl := Own.len rE
        have hYl := HYl.out
        subst hrk her
        refine bodyPost_ret (v := .tuple #[.agg #[.bool true, .bool ex, .bool mk, .int .i64 t, .int .u16 q, .int .u32 ti, .int .u32 ss, .slice B2 lst.length d2, .int .u16 pr, .slice Be en ce, .slice A7 ((l - pv) - at2) c7, .int .i64 pv], .int .i64 0]) (by simp [results, Try.results17, go_sem, *]) rfl ⟨B2, d2, Be, ce, A7, c7, ?_, ?_, hBq⟩
        · simp only [pkV, hEl, hYl]
          rfl
        · simp only [hEl, hYl]
          exact ⟨pB, pE, p7⟩

end Go.Proofs.Ytogjkkhboaflcaa

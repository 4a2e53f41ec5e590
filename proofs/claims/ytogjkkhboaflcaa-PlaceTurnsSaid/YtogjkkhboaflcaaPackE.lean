/-
  What the functions of package packet come to: readExt; Read, where there is no packet. (Written by gen_PackE.py.)
-/
import Derived.Test.YtogjkkhboaflcaaPackD
import Derived.Test.YtogjkkhboaflcaaBase
namespace Go.Proofs.Ytogjkkhboaflcaa
open Go.RowKit
set_option linter.unusedVariables false
set_option linter.unusedSimpArgs false

theorem oget_at (A : Option Addr) (l c : Nat) (s : List UInt8) (a m : Int) (b n : Nat) (w : World) (hs : Bs w A l c s) (ha : a = (b : Int)) (hm : m = (n : Int)) (h1 : 1 ≤ n) (h2 : n ≤ 8) (h3 : b + n ≤ l) :
    Calls Try.prog 33 #[.slice A l c, .int .i64 a, .int .i64 m] w fun e w' => e = .returned (.tuple #[.int .u64 (num ((s.drop b).take n)), .int .i64 0]) ∧ w = w' := by
  subst ha hm
  exact get_yes A l c s b n w hs h1 h2 h3

theorem prx_four (A : Option Addr) (l c : Nat) (s : List UInt8) (w : World) (hs : Bs w A l c s) (h : l < 4) :
    Calls Try.prog 21 #[.slice A l c] w fun e w' => e = .returned (.tuple #[.int .u16 0, .slice none 0 0, .int .i64 2]) ∧ Below w.heap.size w w' := by
  go_enter Try.func21, Try.ntmps21
  go_wp2_with fail
  refine (get_short A l c 2 2 _ (by simp only [maxLen]; omega) (by omega) (by omega) (by omega) (by omega) (by omega)).mono ?_
  rintro e w' ⟨rfl, rfl⟩
  go_wp2_with fail
  go_ret3
  exact ⟨rfl, Below.refl _ _⟩
set_option maxHeartbeats 1000000 in
theorem prx_few (A : Option Addr) (l c : Nat) (s : List UInt8) (W : Nat) (w : World) (hs : Bs w A l c s) (h : 4 ≤ l) (hw : num ((s.drop 2).take 2) = W) (h2 : l < 4 + 4 * W) :
    Calls Try.prog 21 #[.slice A l c] w fun e w' => e = .returned (.tuple #[.int .u16 0, .slice none 0 0, .int .i64 2]) ∧ Below w.heap.size w w' := by
  have hb := num_lt2 s 2
  have hlc := hs.le
  have hcm := hs.cap
  have hlm : l ≤ maxLen := by omega
  clear hcm
  have G := Lib.hid (fun w hs => oget_at A l c s 2 2 2 2 w hs rfl rfl (by omega) (by omega) (by omega))
  rw [hw] at G hb
  clear hw
  have w1 : IntKind.i64.wrap (W : Int) = (W : Int) := IntWalk.i64_in _ (by omega)
  have w2 : IntKind.i64.wrap (4 * (W : Int)) = 4 * (W : Int) := IntWalk.i64_in _ (by omega)
  go_enter Try.func21, Try.ntmps21
  go_wp2_with fail
  refine (G.out _ hs).mono ?_
  rintro e w' ⟨rfl, rfl⟩
  go_wp2_with fail
  refine (part_short A l c 4 (4 * (W : Int)) _ hlm (by omega) (by omega) (by omega) (by omega)).mono ?_
  rintro e w' ⟨rfl, rfl⟩
  go_wp2_with fail
  go_ret3
  exact ⟨rfl, Below.refl _ _⟩
set_option maxHeartbeats 1000000 in
theorem prx_yes (A : Option Addr) (l c : Nat) (s : List UInt8) (W P : Nat) (E : List UInt8) (w : World) (hs : Bs w A l c s) (hw : num ((s.drop 2).take 2) = W) (h2 : 4 + 4 * W ≤ l) (hp : num (s.take 2) = P) (hE : (s.drop 4).take (4 * W) = E) :
    Calls Try.prog 21 #[.slice A l c] w fun e w' => ∃ A' c', e = .returned (.tuple #[.int .u16 P, .slice A' (4 * W) c', .int .i64 0]) ∧ Own w' w.heap.size 5 A' (4 * W) c' E ∧ Below w.heap.size w w' := by
  have hb := num_lt2 s 2
  have hb0 := num_lt2 s 0
  have hEl : E.length = 4 * W := by rw [← hE, List.length_take, List.length_drop, hs.len]; omega
  have G := Lib.hid (fun w hs => oget_at A l c s 2 2 2 2 w hs rfl rfl (by omega) (by omega) (by omega))
  have G0 := Lib.hid (fun w hs => oget_at A l c s 0 2 0 2 w hs rfl rfl (by omega) (by omega) (by omega))
  have PT := Lib.hid (fun w hs => part_at A l c s 4 (4 * W) 4 (4 * (W : Int)) w hs rfl (by omega) (by omega) (by omega) E hE)
  rw [hw] at G hb
  rw [List.drop_zero, hp] at G0 hb0
  clear hw hp hE
  have w1 : IntKind.i64.wrap (W : Int) = (W : Int) := IntWalk.i64_in _ (by omega)
  have w2 : IntKind.i64.wrap (4 * (W : Int)) = 4 * (W : Int) := IntWalk.i64_in _ (by omega)
  have w3 : IntKind.u16.wrap (P : Int) = (P : Int) := by rw [IntKind.wrap_u16]; omega
  go_enter Try.func21, Try.ntmps21
  go_wp2_with fail
  refine (G.out _ hs).mono ?_
  rintro e w' ⟨rfl, rfl⟩
  go_wp2_with fail
  refine (PT.out _ hs).mono ?_
  rintro e w2 ⟨A2, c2, rfl, ho, hb2⟩
  rw [hEl] at ho ⊢
  have hs2 := hs.below hb2
  go_wp2_with fail
  refine (G0.out _ hs2).mono ?_
  rintro e w' ⟨rfl, rfl⟩
  go_wp2_with fail
  go_ret3
  exact ⟨A2, c2, rfl, ho, hb2⟩

theorem pread_long (A : Option Addr) (l c : Nat) (s : List UInt8) (w : World) (hs : Bs w A l c s) (hl : l ≤ 140737488355328) (h : 65535 < l) :
    Calls Try.prog 14 #[.slice A l c] w (GivesP w zeroP 4) := by
  go_enter Try.func14, Try.ntmps14
  go_wp2_with fail
  exact bodyPost_ret (v := .tuple #[pkV zeroP none 0 0 none 0 0 none 0 0, .int .i64 ((4 : Nat) : Int)]) (by simp [results, Try.results14, go_sem, pkV, zeroP, zeroH]) rfl ⟨none, 0, none, 0, none, 0, rfl, PkIn.zero _, below1 w _⟩

set_option maxRecDepth 100000 in
set_option maxHeartbeats 1000000 in
theorem pread_head (A : Option Addr) (l c : Nat) (s : List UInt8) (w : World) (hs : Bs w A l c s) (hl : l ≤ 65535) (h : hErr s ≠ 0) :
    Calls Try.prog 14 #[.slice A l c] w (GivesP w zeroP (hErr s)) := by
  have hz : readH s = zeroH := if_neg h
  have hn : readN s = 0 := if_neg h
  have HW := Lib.hid (fun W hs => hread_any A l c s W hs (by omega))
  rw [hz, hn] at HW
  clear hz hn
  have hne : ((hErr s : Int) != 0) = true := by rw [bne_iff_ne]; omega
  generalize hErr s = er at *
  have k1 := Box.new w zeroCells 45
  have hB := below1 w (.cells #[.bool false, .bool false, .bool false, .int .i64 0, .int .u16 0, .int .u32 0, .int .u32 0, .slice none 0 0, .int .u16 0, .slice none 0 0, .slice none 0 0, .int .i64 0] 45)
  go_enter Try.func14, Try.ntmps14
  go_wp2_with fail
  refine (HW.out _ (hs.alloc _)).mono ?_
  rintro x w2 ⟨B2, d2, rfl, hus, hb⟩
  dsimp only [hdV, zeroH, List.length_nil] at hus ⊢
  replace k1 := k1.call hb
  replace hB := hB.trans (hb.mono (by simp))
  have hsz := hB.size
  have k2 := k1.alloc (.cells #[.bool false, .bool false, .bool false, .int .i64 0, .int .u16 0, .int .u32 0, .int .u32 0, .slice B2 0 d2] 43)
  have hB2 := hB.alloc hsz (.cells #[.bool false, .bool false, .bool false, .int .i64 0, .int .u16 0, .int .u32 0, .int .u32 0, .slice B2 0 d2] 43)
  have ka := k2.all12.1
  have kf := k2.free12
  have KQ := Lib.hid (k2.put12 (.bool false) (.bool false) (.bool false) (.int .i64 0) (.int .u16 0) (.int .u32 0) (.int .u32 0) (.slice none 0 0) (.int .u16 0) (.slice none 0 0) (.slice none 0 0) (.int .i64 0))
  have HBq := Lib.hid (below_put12 hB2 (Nat.le_refl w.heap.size) (.bool false) (.bool false) (.bool false) (.int .i64 0) (.int .u16 0) (.int .u32 0) (.int .u32 0) (.slice none 0 0) (.int .u16 0) (.slice none 0 0) (.slice none 0 0) (.int .i64 0))
  go_wp2_with fail
  clear ka kf
  change bodyPost _ _ _ _ _ (put12 _ w.heap.size (.bool false) (.bool false) (.bool false) (.int .i64 0) (.int .u16 0) (.int .u32 0) (.int .u32 0) (.slice none 0 0) (.int .u16 0) (.slice none 0 0) (.slice none 0 0) (.int .i64 0))
  have kz := KQ.out.all12.1
  have hBq := HBq.out
  generalize put12 _ w.heap.size (.bool false) (.bool false) (.bool false) (.int .i64 0) (.int .u16 0) (.int .u32 0) (.int .u32 0) (.slice none 0 0) (.int .u16 0) (.slice none 0 0) (.slice none 0 0) (.int .i64 0) = wq at *
  exact bodyPost_ret (v := .tuple #[pkV zeroP none 0 0 none 0 0 none 0 0, .int .i64 (er : Int)]) (by simp [results, Try.results14, go_sem, pkV, zeroP, zeroH, *]) rfl ⟨none, 0, none, 0, none, 0, rfl, PkIn.zero _, hBq⟩

set_option maxRecDepth 100000 in
set_option maxHeartbeats 2000000 in
theorem pread_short (A : Option Addr) (l c : Nat) (s : List UInt8) (w : World) (hs : Bs w A l c s) (hl : l ≤ 65535) (h : hErr s = 0) (hx : (readH s).ext = true) (h4 : l < readN s + 4 ∨ l < readN s + 4 + 4 * wordsP s) :
    Calls Try.prog 14 #[.slice A l c] w (GivesP w zeroP 2) := by
  have hat : readN s ≤ l := by rw [← hs.len]; exact (readH_right h).2.2.2.2
  have HW := Lib.hid (fun W hs => hread_any A l c s W hs (by omega))
  rw [h] at HW
  have hwd : num (((s.drop (readN s)).drop 2).take 2) = wordsP s := by rw [List.drop_drop]; rfl
  have HX : Hid (∀ W A1 c1, Bs W A1 (l - readN s) c1 (s.drop (readN s)) → Calls Try.prog 21 #[.slice A1 (l - readN s) c1] W fun e w' => e = .returned (.tuple #[.int .u16 0, .slice none 0 0, .int .i64 2]) ∧ Below W.heap.size W w') := Lib.hid (fun W A1 c1 hs1 => by
    by_cases h5 : l < readN s + 4
    · exact prx_four A1 (l - readN s) c1 _ W hs1 (by omega)
    · exact prx_few A1 (l - readN s) c1 _ (wordsP s) W hs1 (by omega) hwd (by omega))
  clear hwd h4
  generalize readH s = hh at *
  generalize readN s = at0 at *
  obtain ⟨pd, ex, mk, t, q, ti, ss, lst⟩ := hh
  obtain rfl : ex = true := hx
  have k1 := Box.new w zeroCells 45
  have hB := below1 w (.cells #[.bool false, .bool false, .bool false, .int .i64 0, .int .u16 0, .int .u32 0, .int .u32 0, .slice none 0 0, .int .u16 0, .slice none 0 0, .slice none 0 0, .int .i64 0] 45)
  go_enter Try.func14, Try.ntmps14
  go_wp2_with fail
  refine (HW.out _ (hs.alloc _)).mono ?_
  rintro x w2 ⟨B2, d2, rfl, hus, hb⟩
  dsimp only [hdV] at hus ⊢
  have hs2 := ((hs.alloc _).below hb)
  replace k1 := k1.call hb
  replace hB := hB.trans (hb.mono (by simp))
  have hsz := hB.size
  have hlt := k1.2.2
  obtain ⟨A1, c1, hsl, hX⟩ := hs2.slice_l Try.underlying22 byte_size (a := at0) hat
  have hsl2 := fun W => hsl W (at0 : Int) rfl
  clear hsl
  have k2 := (k1.alloc (.cells #[.bool pd, .bool true, .bool mk, .int .i64 t, .int .u16 q, .int .u32 ti, .int .u32 ss, .slice B2 lst.length d2] 43)).alloc (.cells #[.bool pd, .bool true, .bool mk, .int .i64 t, .int .u16 q, .int .u32 ti, .int .u32 ss, .slice B2 lst.length d2, .int .u16 0, .slice none 0 0, .slice none 0 0, .int .i64 0] 45)
  have hB2 := (hB.alloc hsz (.cells #[.bool pd, .bool true, .bool mk, .int .i64 t, .int .u16 q, .int .u32 ti, .int .u32 ss, .slice B2 lst.length d2] 43)).alloc (by simp; omega) (.cells #[.bool pd, .bool true, .bool mk, .int .i64 t, .int .u16 q, .int .u32 ti, .int .u32 ss, .slice B2 lst.length d2, .int .u16 0, .slice none 0 0, .slice none 0 0, .int .i64 0] 45)
  have kh := (Box.new w2 [.bool pd, .bool true, .bool mk, .int .i64 t, .int .u16 q, .int .u32 ti, .int .u32 ss, .slice B2 lst.length d2] 43).alloc (.cells #[.bool pd, .bool true, .bool mk, .int .i64 t, .int .u16 q, .int .u32 ti, .int .u32 ss, .slice B2 lst.length d2, .int .u16 0, .slice none 0 0, .slice none 0 0, .int .i64 0] 45)
  have kp := Box.new (w2.alloc (.cells #[.bool pd, .bool true, .bool mk, .int .i64 t, .int .u16 q, .int .u32 ti, .int .u32 ss, .slice B2 lst.length d2] 43)) [.bool pd, .bool true, .bool mk, .int .i64 t, .int .u16 q, .int .u32 ti, .int .u32 ss, .slice B2 lst.length d2, .int .u16 0, .slice none 0 0, .slice none 0 0, .int .i64 0] 45
  rw [World.size_alloc] at kp
  have kha := kh.eight.1
  clear h
  go_wp2_with fail
  refine (HX.out _ A1 c1 ((hX.alloc _).alloc _)).mono ?_
  rintro e w3 ⟨rfl, hb3⟩
  clear kha
  replace kp := kp.call hb3
  replace k2 := k2.call hb3
  replace hB2 := hB2.trans (hb3.mono (by simp; omega))
  have kpa := kp.all12.1
  have kpf := kp.free12
  have r8 := kp.set 8 (.int .u16 0) (by simp)
  have z8 := k2.other (p := ⟨w2.heap.size + 1, 8, none⟩) (.int .u16 0) (by simp; omega)
  have r9 := r8.set 9 (.slice none 0 0) (by simp)
  have z9 := z8.other (p := ⟨w2.heap.size + 1, 9, none⟩) (.slice none 0 0) (by simp; omega)
  have hBs := (hB2.setCell (p := ⟨w2.heap.size + 1, 8, none⟩) (by simp; omega) (.int .u16 0)).setCell (p := ⟨w2.heap.size + 1, 9, none⟩) (by simp; omega) (.slice none 0 0)
  have r8a := r8.all12.1
  have r8f := r8.free12
  have ka := z9.all12.1
  have kf := z9.free12
  have KQ := Lib.hid (z9.put12 (.bool false) (.bool false) (.bool false) (.int .i64 0) (.int .u16 0) (.int .u32 0) (.int .u32 0) (.slice none 0 0) (.int .u16 0) (.slice none 0 0) (.slice none 0 0) (.int .i64 0))
  have HBq := Lib.hid (below_put12 hBs (Nat.le_refl w.heap.size) (.bool false) (.bool false) (.bool false) (.int .i64 0) (.int .u16 0) (.int .u32 0) (.int .u32 0) (.slice none 0 0) (.int .u16 0) (.slice none 0 0) (.slice none 0 0) (.int .i64 0))
  go_wp2_with fail
  clear ka kf kpa kpf r8a r8f
  change bodyPost _ _ _ _ _ (put12 _ w.heap.size (.bool false) (.bool false) (.bool false) (.int .i64 0) (.int .u16 0) (.int .u32 0) (.int .u32 0) (.slice none 0 0) (.int .u16 0) (.slice none 0 0) (.slice none 0 0) (.int .i64 0))
  have kz := KQ.out.all12.1
  have hBq := HBq.out
  generalize put12 _ w.heap.size (.bool false) (.bool false) (.bool false) (.int .i64 0) (.int .u16 0) (.int .u32 0) (.int .u32 0) (.slice none 0 0) (.int .u16 0) (.slice none 0 0) (.slice none 0 0) (.int .i64 0) = wq at *
  exact bodyPost_ret (v := .tuple #[pkV zeroP none 0 0 none 0 0 none 0 0, .int .i64 ((2 : Nat) : Int)]) (by simp [results, Try.results14, go_sem, pkV, zeroP, zeroH, *]) rfl ⟨none, 0, none, 0, none, 0, rfl, PkIn.zero _, hBq⟩

end Go.Proofs.Ytogjkkhboaflcaa

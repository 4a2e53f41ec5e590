/-
  What the document's own answers for layer 6 come to: Read, where the extension is cut short. (Written by gen_PackR4.py.)
-/
import Derived.Test.YtogjkkhboaflcaaPackR3
namespace Go.Proofs.Ytogjkkhboaflcaa
open Go.RowKit
set_option linter.unusedVariables false
set_option linter.unusedSimpArgs false

set_option maxRecDepth 100000 in
set_option maxHeartbeats 1000000 in
theorem rpread_short4 (A : Option Addr) (l c : Nat) (s : List UInt8) (w : World) (hs : Bs w A l c s) (hl : l ≤ 65535) (h : hErr s = 0) (hx : (readH s).ext = true) (h4 : l < readN s + 4) :
    Calls Try.prog 17 #[.slice A l c] w (GivesP w zeroP 2) := by
  have hat : readN s ≤ l := by rw [← hs.len]; exact (readH_right h).2.2.2.2
  have HW := Lib.hid (fun W hs => rhread_own A l c s W hs (by omega))
  rw [h] at HW
  have hwl : wordsP s < 65536 := num_lt2 s _
  generalize readH s = hh at *
  generalize readN s = at0 at *
  obtain ⟨pd, ex, mk, t, q, ti, ss, lst⟩ := hh
  obtain rfl : ex = true := hx
  have k1 := Box.new w zeroCells 45
  have hB := below1 w (.cells #[.bool false, .bool false, .bool false, .int .i64 0, .int .u16 0, .int .u32 0, .int .u32 0, .slice none 0 0, .int .u16 0, .slice none 0 0, .slice none 0 0, .int .i64 0] 45)
  go_enter Try.func17, Try.ntmps17
  go_wp2_with fail
  refine (HW.out _ (hs.alloc _)).mono ?_
  rintro x w2 ⟨B2, d2, rfl, hus, hb⟩
  dsimp only [hdV] at hus ⊢
  have hs2 := ((hs.alloc _).below hb)
  replace k1 := k1.call hb
  replace hB := hB.trans (hb.mono (by simp))
  have hsz := hB.size
  have k2 := (k1.alloc (.cells #[.bool pd, .bool true, .bool mk, .int .i64 t, .int .u16 q, .int .u32 ti, .int .u32 ss, .slice B2 lst.length d2] 43)).alloc (.cells #[.bool pd, .bool true, .bool mk, .int .i64 t, .int .u16 q, .int .u32 ti, .int .u32 ss, .slice B2 lst.length d2, .int .u16 0, .slice none 0 0, .slice none 0 0, .int .i64 0] 45)
  have hB2 := (hB.alloc hsz (.cells #[.bool pd, .bool true, .bool mk, .int .i64 t, .int .u16 q, .int .u32 ti, .int .u32 ss, .slice B2 lst.length d2] 43)).alloc (by simp; omega) (.cells #[.bool pd, .bool true, .bool mk, .int .i64 t, .int .u16 q, .int .u32 ti, .int .u32 ss, .slice B2 lst.length d2, .int .u16 0, .slice none 0 0, .slice none 0 0, .int .i64 0] 45)
  have kh := (Box.new w2 [.bool pd, .bool true, .bool mk, .int .i64 t, .int .u16 q, .int .u32 ti, .int .u32 ss, .slice B2 lst.length d2] 43).alloc (.cells #[.bool pd, .bool true, .bool mk, .int .i64 t, .int .u16 q, .int .u32 ti, .int .u32 ss, .slice B2 lst.length d2, .int .u16 0, .slice none 0 0, .slice none 0 0, .int .i64 0] 45)
  have kp := Box.new (w2.alloc (.cells #[.bool pd, .bool true, .bool mk, .int .i64 t, .int .u16 q, .int .u32 ti, .int .u32 ss, .slice B2 lst.length d2] 43)) [.bool pd, .bool true, .bool mk, .int .i64 t, .int .u16 q, .int .u32 ti, .int .u32 ss, .slice B2 lst.length d2, .int .u16 0, .slice none 0 0, .slice none 0 0, .int .i64 0] 45
  rw [World.size_alloc] at kp
  have ka := k2.all12.1
  have kf := k2.free12
  have kha := kh.eight.1
  have kpa := kp.all12.1
  have kpf := kp.free12
  have KQ := Lib.hid (k2.put12 (.bool false) (.bool false) (.bool false) (.int .i64 0) (.int .u16 0) (.int .u32 0) (.int .u32 0) (.slice none 0 0) (.int .u16 0) (.slice none 0 0) (.slice none 0 0) (.int .i64 0))
  have HBq := Lib.hid (below_put12 hB2 (Nat.le_refl w.heap.size) (.bool false) (.bool false) (.bool false) (.int .i64 0) (.int .u16 0) (.int .u32 0) (.int .u32 0) (.slice none 0 0) (.int .u16 0) (.slice none 0 0) (.slice none 0 0) (.int .i64 0))
  clear h hwl
  go_wp2_with fail
  clear ka kf kha kpa kpf
  change bodyPost _ _ _ _ _ (put12 _ w.heap.size (.bool false) (.bool false) (.bool false) (.int .i64 0) (.int .u16 0) (.int .u32 0) (.int .u32 0) (.slice none 0 0) (.int .u16 0) (.slice none 0 0) (.slice none 0 0) (.int .i64 0))
  have kz := KQ.out.all12.1
  have hBq := HBq.out
  generalize put12 _ w.heap.size (.bool false) (.bool false) (.bool false) (.int .i64 0) (.int .u16 0) (.int .u32 0) (.int .u32 0) (.slice none 0 0) (.int .u16 0) (.slice none 0 0) (.slice none 0 0) (.int .i64 0) = wq at *
  exact bodyPost_ret (v := .tuple #[pkV zeroP none 0 0 none 0 0 none 0 0, .int .i64 ((2 : Nat) : Int)]) (by simp [results, Try.results17, go_sem, pkV, zeroP, zeroH, *]) rfl ⟨none, 0, none, 0, none, 0, rfl, PkIn.zero _, hBq⟩

set_option maxRecDepth 100000 in
set_option maxHeartbeats 1000000 in
theorem rpread_shortW (A : Option Addr) (l c : Nat) (s : List UInt8) (w : World) (hs : Bs w A l c s) (hl : l ≤ 65535) (h : hErr s = 0) (hx : (readH s).ext = true) (h4 : readN s + 4 ≤ l) (h5 : l < readN s + 4 + 4 * wordsP s) :
    Calls Try.prog 17 #[.slice A l c] w (GivesP w zeroP 2) := by
  have hat : readN s ≤ l := by rw [← hs.len]; exact (readH_right h).2.2.2.2
  have HW := Lib.hid (fun W hs => rhread_own A l c s W hs (by omega))
  rw [h] at HW
  have hwl : wordsP s < 65536 := num_lt2 s _
  have HN := Lib.hid (fun W a hs ha => rnum_any A l c s a (readN s + 2) 2 2 W hs ha (.inl rfl) (by omega) rfl)
  rw [show num ((s.drop (readN s + 2)).take 2) = wordsP s from rfl] at HN
  generalize wordsP s = lw at *
  generalize readH s = hh at *
  generalize readN s = at0 at *
  obtain ⟨pd, ex, mk, t, q, ti, ss, lst⟩ := hh
  obtain rfl : ex = true := hx
  have k1 := Box.new w zeroCells 45
  have hB := below1 w (.cells #[.bool false, .bool false, .bool false, .int .i64 0, .int .u16 0, .int .u32 0, .int .u32 0, .slice none 0 0, .int .u16 0, .slice none 0 0, .slice none 0 0, .int .i64 0] 45)
  go_enter Try.func17, Try.ntmps17
  go_wp2_with fail
  refine (HW.out _ (hs.alloc _)).mono ?_
  rintro x w2 ⟨B2, d2, rfl, hus, hb⟩
  dsimp only [hdV] at hus ⊢
  have hs2 := ((hs.alloc _).below hb)
  replace k1 := k1.call hb
  replace hB := hB.trans (hb.mono (by simp))
  have hsz := hB.size
  have k2 := (k1.alloc (.cells #[.bool pd, .bool true, .bool mk, .int .i64 t, .int .u16 q, .int .u32 ti, .int .u32 ss, .slice B2 lst.length d2] 43)).alloc (.cells #[.bool pd, .bool true, .bool mk, .int .i64 t, .int .u16 q, .int .u32 ti, .int .u32 ss, .slice B2 lst.length d2, .int .u16 0, .slice none 0 0, .slice none 0 0, .int .i64 0] 45)
  have hB2 := (hB.alloc hsz (.cells #[.bool pd, .bool true, .bool mk, .int .i64 t, .int .u16 q, .int .u32 ti, .int .u32 ss, .slice B2 lst.length d2] 43)).alloc (by simp; omega) (.cells #[.bool pd, .bool true, .bool mk, .int .i64 t, .int .u16 q, .int .u32 ti, .int .u32 ss, .slice B2 lst.length d2, .int .u16 0, .slice none 0 0, .slice none 0 0, .int .i64 0] 45)
  have kh := (Box.new w2 [.bool pd, .bool true, .bool mk, .int .i64 t, .int .u16 q, .int .u32 ti, .int .u32 ss, .slice B2 lst.length d2] 43).alloc (.cells #[.bool pd, .bool true, .bool mk, .int .i64 t, .int .u16 q, .int .u32 ti, .int .u32 ss, .slice B2 lst.length d2, .int .u16 0, .slice none 0 0, .slice none 0 0, .int .i64 0] 45)
  have kp := Box.new (w2.alloc (.cells #[.bool pd, .bool true, .bool mk, .int .i64 t, .int .u16 q, .int .u32 ti, .int .u32 ss, .slice B2 lst.length d2] 43)) [.bool pd, .bool true, .bool mk, .int .i64 t, .int .u16 q, .int .u32 ti, .int .u32 ss, .slice B2 lst.length d2, .int .u16 0, .slice none 0 0, .slice none 0 0, .int .i64 0] 45
  rw [World.size_alloc] at kp
  have ka := k2.all12.1
  have kf := k2.free12
  have kha := kh.eight.1
  have kpa := kp.all12.1
  have kpf := kp.free12
  have KQ := Lib.hid (k2.put12 (.bool false) (.bool false) (.bool false) (.int .i64 0) (.int .u16 0) (.int .u32 0) (.int .u32 0) (.slice none 0 0) (.int .u16 0) (.slice none 0 0) (.slice none 0 0) (.int .i64 0))
  have HBq := Lib.hid (below_put12 hB2 (Nat.le_refl w.heap.size) (.bool false) (.bool false) (.bool false) (.int .i64 0) (.int .u16 0) (.int .u32 0) (.int .u32 0) (.slice none 0 0) (.int .u16 0) (.slice none 0 0) (.slice none 0 0) (.int .i64 0))
  clear h
  go_wp2_with fail
  refine (HN.out _ _ ((hs2.alloc _).alloc _) (by omega)).mono ?_
  rintro e w' ⟨rfl, rfl⟩
  go_wp2_with fail
  clear ka kf kha kpa kpf
  change bodyPost _ _ _ _ _ (put12 _ w.heap.size (.bool false) (.bool false) (.bool false) (.int .i64 0) (.int .u16 0) (.int .u32 0) (.int .u32 0) (.slice none 0 0) (.int .u16 0) (.slice none 0 0) (.slice none 0 0) (.int .i64 0))
  have kz := KQ.out.all12.1
  have hBq := HBq.out
  generalize put12 _ w.heap.size (.bool false) (.bool false) (.bool false) (.int .i64 0) (.int .u16 0) (.int .u32 0) (.int .u32 0) (.slice none 0 0) (.int .u16 0) (.slice none 0 0) (.slice none 0 0) (.int .i64 0) = wq at *
  exact bodyPost_ret (v := .tuple #[pkV zeroP none 0 0 none 0 0 none 0 0, .int .i64 ((2 : Nat) : Int)]) (by simp [results, Try.results17, go_sem, pkV, zeroP, zeroH, *]) rfl ⟨none, 0, none, 0, none, 0, rfl, PkIn.zero _, hBq⟩

end Go.Proofs.Ytogjkkhboaflcaa

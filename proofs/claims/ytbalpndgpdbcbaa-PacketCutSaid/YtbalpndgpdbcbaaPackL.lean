/-
  Layer 6's fixed answers: 'awake' is true. (Written by gen_PackL.py.)
-/
import Derived.Test.YtbalpndgpdbcbaaPackK
namespace Go.Proofs.Ytbalpndgpdbcbaa
open Go.RowKit
set_option linter.unusedVariables false
set_option linter.unusedSimpArgs false

def p6 : Pk := ⟨⟨true, true, false, 96, 0, 0, 0, []⟩, 48862, [1, 2, 3, 4], [7], 2⟩
def x6 : List UInt8 := [176, 96, 0, 0, 0, 0, 0, 0, 0, 0, 0, 0, 190, 222, 0, 1, 1, 2, 3, 4, 7, 0, 2]
def y6 : List UInt8 := [176, 96, 0, 0, 0, 0, 0, 0, 0, 0, 0, 0, 190, 222, 0, 1, 1, 2, 3, 4, 7, 1, 2]
theorem p6_right : rightP p6 = true := by decide
theorem p6_fits : fitsP p6 := by unfold fitsP fitsH p6; simp
theorem p6_size : sizeP p6 = 23 := by decide
theorem p6_pack : packB p6 = x6 := by decide
theorem p6_read : pErr x6 = 0 ∧ readP x6 = p6 := by have := read_pack p6_right p6_fits; rwa [p6_pack] at this
theorem p6_canon : canonP x6 = true := by have := canon_pack p6_right p6_fits; rwa [p6_pack] at this
theorem y6_canon : canonP y6 = false := by decide
theorem PkIn.lit (w : World) : PkIn ((w.alloc (.cells #[.int .u8 1, .int .u8 2, .int .u8 3, .int .u8 4] 5)).alloc (.cells #[.int .u8 7] 5)) p6 none 0 0 (some ⟨w.heap.size, 0, none⟩) 4 4 (some ⟨w.heap.size + 1, 0, none⟩) 1 1 :=
  ⟨Us.nil _, (bs_lit w [1, 2, 3, 4] #[.int .u8 1, .int .u8 2, .int .u8 3, .int .u8 4] 5 rfl (by simp [maxLen])).alloc _, by
    have := bs_lit (w.alloc (.cells #[.int .u8 1, .int .u8 2, .int .u8 3, .int .u8 4] 5)) [7] #[.int .u8 7] 5 rfl (by simp [maxLen])
    rwa [World.size_alloc] at this⟩

theorem write23 : writeP p6 23 = x6 ∧ writePE p6 23 = 0 := by
  obtain ⟨h1, h2, _⟩ := writeP_yes (room := 23) p6_right (by rw [p6_size]; decide)
  exact ⟨h1.trans p6_pack, h2⟩
theorem write22 : writeP p6 22 = [] ∧ writePE p6 22 = 7 := by
  obtain ⟨h1, h2, _⟩ := writeP_room (room := 22) p6_right (by rw [p6_size]; decide)
  exact ⟨h1, h2⟩
theorem size23 : sizePE p6 = 23 := (if_pos p6_right).trans p6_size
theorem ok6 {w : World} {A B C : Option Addr} {c cb cc : Nat} (h : PkIn w p6 A 0 c B 4 cb C 1 cc) : PkOk w p6 A 0 c B 4 cb C 1 cc :=
  ⟨h, by omega, by omega, by omega, p6_fits, by decide, by decide⟩
theorem rsameP_told (p : Pk) (A : Option Addr) (n c : Nat) (B : Option Addr) (lb cb : Nat) (C : Option Addr) (lc cc : Nat) (q : Pk) (A' : Option Addr) (n' c' : Nat) (B' : Option Addr) (lb' cb' : Nat) (C' : Option Addr) (lc' cc' : Nat) (w : World) (h : PkIn w p A n c B lb cb C lc cc) (k : PkIn w q A' n' c' B' lb' cb' C' lc' cc') (b : Bool) (hb : decide (p = q) = b) :
    Calls Try.prog 16 #[pkV p A n c B lb cb C lc cc, pkV q A' n' c' B' lb' cb' C' lc' cc'] w (Says w (.bool b)) := by
  subst hb
  exact rsameP_any p q A n c B lb cb C lc cc A' n' c' B' lb' cb' C' lc' cc' w h k

section
variable (K : PackCalls)
include K
theorem right_told (p : Pk) (A : Option Addr) (n c : Nat) (B : Option Addr) (lb cb : Nat) (C : Option Addr) (lc cc : Nat) (w : World) (h : PkOk w p A n c B lb cb C lc cc) (b : Bool) (hb : rightP p = b) :
    Calls Try.prog 15 #[pkV p A n c B lb cb C lc cc] w (Says w (.bool b)) := by
  subst hb
  exact K.right p A n c B lb cb C lc cc w h
theorem size_told (p : Pk) (A : Option Addr) (n c : Nat) (B : Option Addr) (lb cb : Nat) (C : Option Addr) (lc cc : Nat) (w : World) (h : PkOk w p A n c B lb cb C lc cc) (z : Int) (hz : sizePE p = z) :
    Calls Try.prog 10 #[pkV p A n c B lb cb C lc cc] w (Says w (.int .i64 z)) := by
  subst hz
  exact K.size p A n c B lb cb C lc cc w h
theorem write_told (p : Pk) (A : Option Addr) (n c : Nat) (B : Option Addr) (lb cb : Nat) (C : Option Addr) (lc cc : Nat) (room : Int) (w : World) (h : PkOk w p A n c B lb cb C lc cc) (hw : (Lit.int .i64 room).wf = true) (s : List UInt8) (k : Nat) (er : Int) (hs : writeP p room = s) (hk : s.length = k) (he : writePE p room = er) :
    Calls Try.prog 9 #[pkV p A n c B lb cb C lc cc, .int .i64 room] w fun x w' => ∃ A' c', x = .returned (.tuple #[.slice A' k c', .int .i64 er]) ∧ Bs w' A' k c' s ∧ Below w.heap.size w w' := by
  subst hs hk he
  exact K.write p A n c B lb cb C lc cc room w h hw
theorem canon_told (A : Option Addr) (l c : Nat) (s : List UInt8) (w : World) (hs : Bs w A l c s) (hl : l ≤ 1000000000) (b : Bool) (hb : canonP s = b) :
    Calls Try.prog 17 #[.slice A l c] w (Says w (.bool b)) := by
  subst hb
  exact K.canon A l c s w hs hl
theorem read6 (A : Option Addr) (l c : Nat) (w : World) (hs : Bs w A l c x6) (hl : l ≤ 1000000000) :
    Calls Try.prog 13 #[.slice A l c] w fun x w' => ∃ B6 d6 B7 d7 B8 d8, x = .returned (.tuple #[.agg #[.bool true, .bool true, .bool false, .int .i64 96, .int .u16 0, .int .u32 0, .int .u32 0, .slice B6 0 d6, .int .u16 48862, .slice B7 4 d7, .slice B8 1 d8, .int .i64 2], .int .i64 0]) ∧ PkIn w' p6 B6 0 d6 B7 4 d7 B8 1 d8 ∧ Below w.heap.size w w' := by
  have h := K.read A l c x6 w hs hl
  rw [p6_read.1, p6_read.2] at h
  exact h.mono fun _ _ ⟨B6, d6, B7, d7, B8, d8, h1, h2, h3⟩ => ⟨B6, d6, B7, d7, B8, d8, h1, h2, h3⟩
set_option maxRecDepth 100000 in
set_option maxHeartbeats 2000000 in
theorem awake_any (w : World) :
    Calls Try.prog 6 #[] w fun e w' => e = .returned (.bool true) ∧ Below w.heap.size w w' := by
  go_enter Try.func6, Try.ntmps6
  go_wp2_with fail
  have hp := (((PkIn.lit w).alloc (.cells #[.bool true, .bool true, .bool false, .int .i64 96, .int .u16 0, .int .u32 0, .int .u32 0, .slice none 0 0, .int .u16 48862, .slice (some ⟨w.heap.size, 0, none⟩) 4 4, .slice (some ⟨w.heap.size + 1, 0, none⟩) 1 1, .int .i64 2] 29)))
  have k1 := Box.new ((w.alloc (.cells #[.int .u8 1, .int .u8 2, .int .u8 3, .int .u8 4] 5)).alloc (.cells #[.int .u8 7] 5)) [.bool true, .bool true, .bool false, .int .i64 96, .int .u16 0, .int .u32 0, .int .u32 0, .slice none 0 0, .int .u16 48862, .slice (some ⟨w.heap.size, 0, none⟩) 4 4, .slice (some ⟨w.heap.size + 1, 0, none⟩) 1 1, .int .i64 2] 29
  rw [World.size_alloc, World.size_alloc, Nat.add_assoc] at k1
  have hB : Below w.heap.size w (((w.alloc (.cells #[.int .u8 1, .int .u8 2, .int .u8 3, .int .u8 4] 5)).alloc (.cells #[.int .u8 7] 5)).alloc (.cells #[.bool true, .bool true, .bool false, .int .i64 96, .int .u16 0, .int .u32 0, .int .u32 0, .slice none 0 0, .int .u16 48862, .slice (some ⟨w.heap.size, 0, none⟩) 4 4, .slice (some ⟨w.heap.size + 1, 0, none⟩) 1 1, .int .i64 2] 29)) := (below2 w (.cells #[.int .u8 1, .int .u8 2, .int .u8 3, .int .u8 4] 5) (.cells #[.int .u8 7] 5)).alloc (by simp; omega) _
  refine (write_told K p6 none 0 0 (some ⟨w.heap.size, 0, none⟩) 4 4 (some ⟨w.heap.size + 1, 0, none⟩) 1 1 23 _ (ok6 hp) (by decide) x6 23 0 write23.1 rfl write23.2).mono ?_
  rintro e w2 ⟨A2, c2, rfl, hx, hb⟩
  replace hp := hp.below hb
  replace k1 := k1.call hb
  replace hB := hB.trans (hb.mono hB.size)
  clear hb
  go_wp2_with fail
  refine (read6 K A2 23 c2 _ hx (by decide)).mono ?_
  rintro e w3 ⟨B6, d6, B7, d7, B8, d8, rfl, hq, hb⟩
  replace hp := hp.below hb
  replace k1 := k1.call hb
  replace hx := hx.below hb
  replace hB := hB.trans (hb.mono hB.size)
  clear hb
  have k2 := Box.new w3 [.bool true, .bool true, .bool false, .int .i64 96, .int .u16 0, .int .u32 0, .int .u32 0, .slice B6 0 d6, .int .u16 48862, .slice B7 4 d7, .slice B8 1 d8, .int .i64 2] 29
  have hlt3 := hB.size
  replace hp := hp.alloc (.cells #[.bool true, .bool true, .bool false, .int .i64 96, .int .u16 0, .int .u32 0, .int .u32 0, .slice B6 0 d6, .int .u16 48862, .slice B7 4 d7, .slice B8 1 d8, .int .i64 2] 29)
  replace k1 := k1.alloc (.cells #[.bool true, .bool true, .bool false, .int .i64 96, .int .u16 0, .int .u32 0, .int .u32 0, .slice B6 0 d6, .int .u16 48862, .slice B7 4 d7, .slice B8 1 d8, .int .i64 2] 29)
  replace hx := hx.alloc (.cells #[.bool true, .bool true, .bool false, .int .i64 96, .int .u16 0, .int .u32 0, .int .u32 0, .slice B6 0 d6, .int .u16 48862, .slice B7 4 d7, .slice B8 1 d8, .int .i64 2] 29)
  replace hq := hq.alloc (.cells #[.bool true, .bool true, .bool false, .int .i64 96, .int .u16 0, .int .u32 0, .int .u32 0, .slice B6 0 d6, .int .u16 48862, .slice B7 4 d7, .slice B8 1 d8, .int .i64 2] 29)
  replace hB := hB.alloc hB.size (.cells #[.bool true, .bool true, .bool false, .int .i64 96, .int .u16 0, .int .u32 0, .int .u32 0, .slice B6 0 d6, .int .u16 48862, .slice B7 4 d7, .slice B8 1 d8, .int .i64 2] 29)
  have fk1 := k1.all12.1
  have fk2 := k2.all12.1
  go_wp2_with fail
  refine (write_told K p6 none 0 0 (some ⟨w.heap.size, 0, none⟩) 4 4 (some ⟨w.heap.size + 1, 0, none⟩) 1 1 22 _ (ok6 hp) (by decide) [] 0 7 write22.1 rfl write22.2).mono ?_
  rintro e w4 ⟨A4, c4, rfl, _, hb⟩
  clear fk1
  clear fk2
  replace hp := hp.below hb
  replace k1 := k1.call hb
  replace hx := hx.below hb
  replace hq := hq.below hb
  replace k2 := k2.call hb
  replace hB := hB.trans (hb.mono hB.size)
  clear hb
  go_upto_region 8 with (at_builtin; go_loud (refine wpList_app _ rfl (.tmp 31) (.tmp 32) 27 rfl w4.heap.size 5 Try.underlying27 byte_info (some ⟨w4.heap.size, 0, none⟩) 0 0 [] rfl (own_empty w4 _ _ (Nat.le_refl _)) A2 23 c2 x6 rfl (hx.alloc _) (by omega) (by simp) ?_); intro A5 c5 w5 hown5 hb5; rw [Nat.zero_add] at hown5; rw [List.nil_append] at hown5; rw [Nat.zero_add])
  obtain ⟨g, rfl, hg1, hg2⟩ := hown5.form (by omega)
  obtain ⟨⟨u0, hcl⟩, hfz, hst⟩ := Own.store (x := 1) hown5 (show 21 < 23 by omega)
  replace hst : Own (w5.setCell ⟨g, 21, none⟩ (.int .u8 1)) w4.heap.size 5 (some ⟨g, 0, none⟩) 23 c5 y6 := hst
  have hb : Below w4.heap.size w4 (w5.setCell ⟨g, 21, none⟩ (.int .u8 1)) := ((((Below.refl _ w4).alloc (Nat.le_refl _) _).trans hb5).setCell (p := ⟨g, 21, none⟩) hg1 _)
  clear hown5 hb5
  replace hp := hp.below hb
  replace k1 := k1.call hb
  replace hx := hx.below hb
  replace hq := hq.below hb
  replace k2 := k2.call hb
  replace hB := hB.trans (hb.mono hB.size)
  clear hb
  have hy := hst.bs
  have fk1 := k1.all12.1
  have fk2 := k2.all12.1
  go_wp2_with fail
  refine (size_told K p6 none 0 0 (some ⟨w.heap.size, 0, none⟩) 4 4 (some ⟨w.heap.size + 1, 0, none⟩) 1 1 _ (ok6 hp) 23 size23).mono ?_
  rintro e w6 ⟨rfl, hb⟩
  clear fk1
  clear fk2
  replace hp := hp.below hb
  replace k1 := k1.call hb
  replace hx := hx.below hb
  replace hq := hq.below hb
  replace k2 := k2.call hb
  replace hy := hy.below hb
  replace hB := hB.trans (hb.mono hB.size)
  clear hb
  have fk1 := k1.all12.1
  have fk2 := k2.all12.1
  go_wp2_with fail
  refine (rsameP_told p6 none 0 0 (some ⟨w.heap.size, 0, none⟩) 4 4 (some ⟨w.heap.size + 1, 0, none⟩) 1 1 p6 B6 0 d6 B7 4 d7 B8 1 d8 _ hp hq true (decide_eq_true rfl)).mono ?_
  rintro e w7 ⟨rfl, hb⟩
  clear fk1
  clear fk2
  replace hp := hp.below hb
  replace k1 := k1.call hb
  replace hx := hx.below hb
  replace hq := hq.below hb
  replace k2 := k2.call hb
  replace hy := hy.below hb
  replace hB := hB.trans (hb.mono hB.size)
  clear hb
  have fk1 := k1.all12.1
  have fk2 := k2.all12.1
  go_wp2_with fail
  refine (canon_told K A2 23 c2 x6 _ hx (by decide) true p6_canon).mono ?_
  rintro e w8 ⟨rfl, hb⟩
  clear fk1
  clear fk2
  replace hp := hp.below hb
  replace k1 := k1.call hb
  replace hx := hx.below hb
  replace hq := hq.below hb
  replace k2 := k2.call hb
  replace hy := hy.below hb
  replace hB := hB.trans (hb.mono hB.size)
  clear hb
  have fk1 := k1.all12.1
  have fk2 := k2.all12.1
  go_wp2_with fail
  refine (canon_told K (some ⟨g, 0, none⟩) 23 c5 y6 _ hy (by decide) false y6_canon).mono ?_
  rintro e w9 ⟨rfl, hb⟩
  clear fk1
  clear fk2
  replace hp := hp.below hb
  replace k1 := k1.call hb
  replace hx := hx.below hb
  replace hq := hq.below hb
  replace k2 := k2.call hb
  replace hy := hy.below hb
  replace hB := hB.trans (hb.mono hB.size)
  clear hb
  have fk1 := k1.all12.1
  have fk2 := k2.all12.1
  go_wp2_with fail
  refine (right_told K p6 none 0 0 (some ⟨w.heap.size, 0, none⟩) 4 4 (some ⟨w.heap.size + 1, 0, none⟩) 1 1 _ (ok6 hp) true p6_right).mono ?_
  rintro e w10 ⟨rfl, hb⟩
  clear fk1
  clear fk2
  replace hp := hp.below hb
  replace k1 := k1.call hb
  replace hx := hx.below hb
  replace hq := hq.below hb
  replace k2 := k2.call hb
  replace hy := hy.below hb
  replace hB := hB.trans (hb.mono hB.size)
  clear hb
  have fk1 := k1.all12.1
  have fk2 := k2.all12.1
  go_wp2_with fail
  go_ret
  exact ⟨rfl, hB⟩
end

end Go.Proofs.Ytbalpndgpdbcbaa

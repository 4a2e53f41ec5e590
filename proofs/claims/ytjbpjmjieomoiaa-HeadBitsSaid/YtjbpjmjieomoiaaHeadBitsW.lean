/-
  The walk of the statement HeadBits, under the contracts of package head's calls.
-/
import Derived.Test.YtjbpjmjieomoiaaHeadK
import Derived.Test.YtjbpjmjieomoiaaHeadJ
import Derived.Test.YtjbpjmjieomoiaaReg
import Derived.Deep.CutBlock
import Derived.RegionTactic
import Derived.BigRegion
import Derived.ChangeAlike
import Derived.BigQuiet
namespace Go.Proofs.Ytjbpjmjieomoiaa
open Go.RowKit

set_option maxRecDepth 100000 in
set_option maxHeartbeats 400000 in
theorem headBits_big (K : HeadCalls) (p1 e1 m1 : Bool) (t1 : Int) (q1 ti1 ss1 : Nat) (A1 : Option Addr) (n1 c1 : Nat) (p2 e2 m2 : Bool) (t2 : Int) (q2 ti2 ss2 : Nat) (A2 : Option Addr) (n2 c2 : Nat) (fld : Int) (w : World) (hn1 : n1 ≤ maxLen) (h : 99 < n1) :
    Calls Try.prog 5 #[.agg #[.bool p1, .bool e1, .bool m1, .int .i64 t1, .int .u16 q1, .int .u32 ti1, .int .u32 ss1, .slice A1 n1 c1], .agg #[.bool p2, .bool e2, .bool m2, .int .i64 t2, .int .u16 q2, .int .u32 ti2, .int .u32 ss2, .slice A2 n2 c2], .int .u8 fld] w fun e w' => e = .returned (.bool true) ∧ Below w.heap.size w w' := by
  unfold maxLen at hn1
  have h : 99 < (n1 : Int) := by omega
  go_enter Try.func5, Try.ntmps5
  go_wp2_with fail
  refine (awake_any K _).mono ?_
  rintro e w1 ⟨rfl, hb⟩
  have k1 := ((Box.new w [.bool p1, .bool e1, .bool m1, .int .i64 t1, .int .u16 q1, .int .u32 ti1, .int .u32 ss1, .slice A1 n1 c1] 26).alloc (.cells #[.bool p2, .bool e2, .bool m2, .int .i64 t2, .int .u16 q2, .int .u32 ti2, .int .u32 ss2, .slice A2 n2 c2] 26)).call hb
  have hB := (below2 w (.cells #[.bool p1, .bool e1, .bool m1, .int .i64 t1, .int .u16 q1, .int .u32 ti1, .int .u32 ss1, .slice A1 n1 c1] 26) (.cells #[.bool p2, .bool e2, .bool m2, .int .i64 t2, .int .u16 q2, .int .u32 ti2, .int .u32 ss2, .slice A2 n2 c2] 26)).trans (hb.mono (by simp; omega))
  have fk1 := k1.eight.1
  go_wp2_with fail
  go_ret
  exact ⟨rfl, hB⟩

/-- What the choice of a field leaves: the other header's variable, and from where to where its bytes may be others. -/
def BitsI (w3 : World) (h : Hd) (blk : Nat) (x y : Value) (W : World) : Prop :=
  ∃ (p e m : Bool) (t : Int) (q ti ss : Nat) (A : Option Addr) (c : Nat) (l : List Nat) (fr en : Nat), x = .int .i64 fr ∧ y = .int .i64 en ∧ en ≤ 16 ∧ fr ≤ en ∧
    Box W blk [.bool p, .bool e, .bool m, .int .i64 t, .int .u16 q, .int .u32 ti, .int .u32 ss, .slice A l.length c] ∧ Us W A l.length c l ∧ Below w3.heap.size w3 W ∧
    fitsH ⟨p, e, m, t, q, ti, ss, l⟩ ∧ (Lit.int .i64 t).wf = true ∧ BitsR h ⟨p, e, m, t, q, ti, ss, l⟩ fr en

set_option maxRecDepth 100000 in
set_option maxHeartbeats 4000000 in
theorem headBits_main (K : HeadCalls) (p1 e1 m1 : Bool) (t1 : Int) (q1 ti1 ss1 : Nat) (A1 : Option Addr) (c1 : Nat) (l1 : List Nat) (p2 e2 m2 : Bool) (t2 : Int) (q2 ti2 ss2 : Nat) (A2 : Option Addr) (n2 c2 : Nat) (l2 : List Nat) (fld : Nat) (w : World) (hl1 : Us w A1 l1.length c1 l1) (hf1 : fitsH ⟨p1, e1, m1, t1, q1, ti1, ss1, l1⟩) (ht1 : (Lit.int .i64 t1).wf = true) (hf2 : fitsH ⟨p2, e2, m2, t2, q2, ti2, ss2, l2⟩) (ht2 : (Lit.int .i64 t2).wf = true) (hn1 : l1.length ≤ 99) (hfld : fld < 256) :
    Calls Try.prog 5 #[.agg #[.bool p1, .bool e1, .bool m1, .int .i64 t1, .int .u16 q1, .int .u32 ti1, .int .u32 ss1, .slice A1 l1.length c1], .agg #[.bool p2, .bool e2, .bool m2, .int .i64 t2, .int .u16 q2, .int .u32 ti2, .int .u32 ss2, .slice A2 n2 c2], .int .u8 fld] w fun e w' => e = .returned (.bool true) ∧ Below w.heap.size w w' := by
  have W1 := Lib.hid (fun W hl => K.write p1 e1 m1 t1 q1 ti1 ss1 A1 l1.length c1 l1 W hl (by omega) hf1 ht1)
  have WR := Lib.hid K.write
  have RI := Lib.hid K.right
  obtain ⟨j, hj⟩ : ∃ j, j = fld % 6 := ⟨_, rfl⟩
  have hj6 : j < 6 := by omega
  have hfx : (fld : Int) % 6 = (j : Int) := by omega
  clear hj
  go_enter Try.func5, Try.ntmps5
  go_wp2_with fail
  refine (awake_any K _).mono ?_
  rintro e' w1 ⟨rfl, hb⟩
  have k1 := ((Box.new w [.bool p1, .bool e1, .bool m1, .int .i64 t1, .int .u16 q1, .int .u32 ti1, .int .u32 ss1, .slice A1 l1.length c1] 26).alloc (.cells #[.bool p2, .bool e2, .bool m2, .int .i64 t2, .int .u16 q2, .int .u32 ti2, .int .u32 ss2, .slice A2 n2 c2] 26)).call hb
  have k2 := (Box.new (w.alloc (.cells #[.bool p1, .bool e1, .bool m1, .int .i64 t1, .int .u16 q1, .int .u32 ti1, .int .u32 ss1, .slice A1 l1.length c1] 26)) [.bool p2, .bool e2, .bool m2, .int .i64 t2, .int .u16 q2, .int .u32 ti2, .int .u32 ss2, .slice A2 n2 c2] 26).call hb
  rw [World.size_alloc] at k2
  have hB := (below2 w (.cells #[.bool p1, .bool e1, .bool m1, .int .i64 t1, .int .u16 q1, .int .u32 ti1, .int .u32 ss1, .slice A1 l1.length c1] 26) (.cells #[.bool p2, .bool e2, .bool m2, .int .i64 t2, .int .u16 q2, .int .u32 ti2, .int .u32 ss2, .slice A2 n2 c2] 26)).trans (hb.mono (by simp; omega))
  replace hl1 := ((hl1.alloc (.cells #[.bool p1, .bool e1, .bool m1, .int .i64 t1, .int .u16 q1, .int .u32 ti1, .int .u32 ss1, .slice A1 l1.length c1] 26)).alloc (.cells #[.bool p2, .bool e2, .bool m2, .int .i64 t2, .int .u16 q2, .int .u32 ti2, .int .u32 ss2, .slice A2 n2 c2] 26)).below hb
  clear hb
  have fk1 := k1.eight.1
  have fk2 := k2.eight.1
  go_wp2_with fail
  refine (W1.out _ hl1).mono ?_
  rintro e w3 ⟨A3, c3, rfl, hx, hb⟩
  clear fk1 fk2
  replace hl1 := hl1.below hb
  replace k1 := k1.call hb
  replace k2 := k2.call hb
  replace hB := hB.trans (hb.mono hB.size)
  clear hb
  have fk1 := k1.eight.1
  have fk2 := k2.eight.1
  have w3s := hB.size
  have k2z := k2.2.2
  have hq := below1 w3 (.cells #[.bool p1, .bool e1, .bool m1, .int .i64 t1, .int .u16 q1, .int .u32 ti1, .int .u32 ss1, .slice A1 l1.length c1] 26)
  have hl3 := hl1
  have hx3 := hx
  have Hl3 := Lib.hid hl3
  have Hx3 := Lib.hid hx3
  have Hk1 := Lib.hid k1
  have HB3 := Lib.hid hB
  go_upto_block 0 with fail
  clear fk1 fk2
  have k3 := Box.new w3 [.bool p1, .bool e1, .bool m1, .int .i64 t1, .int .u16 q1, .int .u32 ti1, .int .u32 ss1, .slice A1 l1.length c1] 26
  replace hl1 := hl1.alloc (.cells #[.bool p1, .bool e1, .bool m1, .int .i64 t1, .int .u16 q1, .int .u32 ti1, .int .u32 ss1, .slice A1 l1.length c1] 26)
  replace k1 := k1.alloc (.cells #[.bool p1, .bool e1, .bool m1, .int .i64 t1, .int .u16 q1, .int .u32 ti1, .int .u32 ss1, .slice A1 l1.length c1] 26)
  replace k2 := k2.alloc (.cells #[.bool p1, .bool e1, .bool m1, .int .i64 t1, .int .u16 q1, .int .u32 ti1, .int .u32 ss1, .slice A1 l1.length c1] 26)
  replace hx := hx.alloc (.cells #[.bool p1, .bool e1, .bool m1, .int .i64 t1, .int .u16 q1, .int .u32 ti1, .int .u32 ss1, .slice A1 l1.length c1] 26)
  replace hB := hB.alloc hB.size (.cells #[.bool p1, .bool e1, .bool m1, .int .i64 t1, .int .u16 q1, .int .u32 ti1, .int .u32 ss1, .slice A1 l1.length c1] 26)
  have fk1 := k1.eight.1
  have fk2 := k2.eight.1
  have fk3 := k3.eight.1
  have hBq := hB
  generalize hw4 : w3.alloc (.cells #[.bool p1, .bool e1, .bool m1, .int .i64 t1, .int .u16 q1, .int .u32 ti1, .int .u32 ss1, .slice A1 l1.length c1] 26) = w4 at *
  clear hw4
  have w4s := k3.2.2
  skip
  go_cut [9, 10, 28] (fun x y _ W => BitsI w3 ⟨p1, e1, m1, t1, q1, ti1, ss1, l1⟩ w3.heap.size x y W)
  case first =>
    obtain ⟨ff0, ff1, ff2, ff3, ff4, ff5, ff6, ff7⟩ := k3.free8
    rcases (show j = 0 ∨ j = 1 ∨ j = 2 ∨ j = 3 ∨ j = 4 ∨ j = 5 by omega) with rfl | rfl | rfl | rfl | rfl | rfl
    · go_wp2_with fail
      go_region
      go_wp2_with fail
      go_meet
      exact ⟨p2, e2, m1, t1, q1, ti1, ss1, A1, c1, l1, 0, 1, rfl, rfl, by omega, by omega, (((k3.drewN 1).set 0 (.bool p2) (by simp)).set 1 (.bool e2) (by simp)), Us.below Hl3.out (((below_drewN hq 1).setCell (p := ⟨w3.heap.size, 0, none⟩) (Nat.le_refl _) (.bool p2)).setCell (p := ⟨w3.heap.size, 1, none⟩) (Nat.le_refl _) (.bool e2)), (((below_drewN hq 1).setCell (p := ⟨w3.heap.size, 0, none⟩) (Nat.le_refl _) (.bool p2)).setCell (p := ⟨w3.heap.size, 1, none⟩) (Nat.le_refl _) (.bool e2)), ⟨hf1.1, hf1.2.1, hf1.2.2.1, hf1.2.2.2⟩, ht1, bits0 _ _ _ _ _ _ _ _ _ _⟩
    · go_wp2_with fail
      go_region
      go_wp2_with fail
      go_meet
      exact ⟨p1, e1, m2, t2, q1, ti1, ss1, A1, c1, l1, 1, 2, rfl, rfl, by omega, by omega, (((k3.drewN 1).set 2 (.bool m2) (by simp)).set 3 (.int .i64 t2) (by simp)), Us.below Hl3.out (((below_drewN hq 1).setCell (p := ⟨w3.heap.size, 2, none⟩) (Nat.le_refl _) (.bool m2)).setCell (p := ⟨w3.heap.size, 3, none⟩) (Nat.le_refl _) (.int .i64 t2)), (((below_drewN hq 1).setCell (p := ⟨w3.heap.size, 2, none⟩) (Nat.le_refl _) (.bool m2)).setCell (p := ⟨w3.heap.size, 3, none⟩) (Nat.le_refl _) (.int .i64 t2)), ⟨hf1.1, hf1.2.1, hf1.2.2.1, hf1.2.2.2⟩, ht2, bits1 _ _ _ _ _ _ _ _ _ _⟩
    · go_wp2_with fail
      go_meet
      exact ⟨p1, e1, m1, t1, q2, ti1, ss1, A1, c1, l1, 2, 4, rfl, rfl, by omega, by omega, (k3.set 4 (.int .u16 q2) (by simp)), Us.below Hl3.out (hq.setCell (p := ⟨w3.heap.size, 4, none⟩) (Nat.le_refl _) (.int .u16 q2)), (hq.setCell (p := ⟨w3.heap.size, 4, none⟩) (Nat.le_refl _) (.int .u16 q2)), ⟨hf2.1, hf1.2.1, hf1.2.2.1, hf1.2.2.2⟩, ht1, bits2 _ _ _ _ _ _ _ _ _⟩
    · go_wp2_with fail
      go_meet
      exact ⟨p1, e1, m1, t1, q1, ti2, ss1, A1, c1, l1, 4, 8, rfl, rfl, by omega, by omega, (k3.set 5 (.int .u32 ti2) (by simp)), Us.below Hl3.out (hq.setCell (p := ⟨w3.heap.size, 5, none⟩) (Nat.le_refl _) (.int .u32 ti2)), (hq.setCell (p := ⟨w3.heap.size, 5, none⟩) (Nat.le_refl _) (.int .u32 ti2)), ⟨hf1.1, hf2.2.1, hf1.2.2.1, hf1.2.2.2⟩, ht1, bits3 _ _ _ _ _ _ _ _ _⟩
    · go_wp2_with fail
      go_meet
      exact ⟨p1, e1, m1, t1, q1, ti1, ss2, A1, c1, l1, 8, 12, rfl, rfl, by omega, by omega, (k3.set 6 (.int .u32 ss2) (by simp)), Us.below Hl3.out (hq.setCell (p := ⟨w3.heap.size, 6, none⟩) (Nat.le_refl _) (.int .u32 ss2)), (hq.setCell (p := ⟨w3.heap.size, 6, none⟩) (Nat.le_refl _) (.int .u32 ss2)), ⟨hf1.1, hf1.2.1, hf2.2.2.1, hf1.2.2.2⟩, ht1, bits4 _ _ _ _ _ _ _ _ _⟩
    · by_cases hn : l1.length = 0
      · have hn0 : decide ((0 : Int) < (l1.length : Int)) = false := by rw [decide_eq_false_iff_not]; omega
        go_wp2_with fail
        go_meet
        exact ⟨p1, e1, m1, t1, q1, ti1, ss1, A1, c1, l1, 12, 16, rfl, rfl, by omega, by omega, k3, Us.below Hl3.out hq, hq, ⟨hf1.1, hf1.2.1, hf1.2.2.1, hf1.2.2.2⟩, ht1, bits_same _ _ _ _ _ _ _ _ _ _⟩
      · have hn0 : decide ((0 : Int) < (l1.length : Int)) = true := by rw [decide_eq_true_eq]; omega
        obtain ⟨x0, hx0⟩ : ∃ x0, l1[0]? = some x0 := ⟨_, List.getElem?_eq_getElem (by omega)⟩
        have Hx0 := Lib.hid hx0
        clear hx0
        obtain ⟨b1, o1, rfl, _, hc1⟩ := Sl.at_ hl1 (by omega)
        have k2b := k2.2.2
        have k3b := k3.2.2
        have hns : ∀ i u, (l1.map u32V)[i]? = some u → (w4.alloc (.cells #[] 23)).cell? ((⟨b1, o1, none⟩ : Addr).add i) = some u := fun i u hu => by
          rw [add_plain']
          have hlt := World.block_lt_of_cell? _ _ (hc1 i u hu)
          rw [World.cell?_alloc_lt _ _ _ hlt]
          exact hc1 i u hu
        clear ff7
        have fa1 := (k1.alloc (.cells #[] 23)).eight.1
        have k3r := w3s
        have hk3 : w.heap.size + 1 < w3.heap.size := k2z
        go_wp2_with (at_builtin; go_loud (refine wpList_appV rfl (.tmp 33) (.tmp 35) 24 rfl w4.heap.size 23 (.int .u32 0) 4 Try.underlying24 info_u32 rfl (some ⟨w4.heap.size, 0, none⟩) 0 0 [] rfl (World.ownsRow_lit (base := w4.heap.size) (e := 23) (size := 1) w4 #[] 0 (Nat.le_refl _) (Nat.zero_le _) rfl) ⟨b1, o1, none⟩ l1.length c1 (l1.map u32V) rfl (by rw [List.length_map]) hns (by intro u hu; obtain ⟨z, _, rfl⟩ := List.mem_map.1 hu; rfl) (by simp only [maxLen]; omega) (by omega) (by simp) ?_); intro A5 c5 w5 hown5 hgrow hat; obtain ⟨g5, cap5, hv5, hg5, hg5l⟩ := World.ownsRow.form hown5 (by omega); (injection hv5 with hv6 hv7 hv8); subst hv6; subst hv8; have y3 : Box w5 w3.heap.size [.bool p1, .bool e1, .bool m1, .int .i64 t1, .int .u16 q1, .int .u32 ti1, .int .u32 ss1, .slice (some ⟨b1, o1, none⟩) l1.length c1] := Box.grown (w := w4.alloc (.cells #[] 23)) (k3.alloc _) hgrow (by simp [rowOf]; omega); have y2 : Box w5 (w.heap.size + 1) [.bool p2, .bool e2, .bool m2, .int .i64 t2, .int .u16 q2, .int .u32 ti2, .int .u32 ss2, .slice A2 n2 c2] := Box.grown (w := w4.alloc (.cells #[] 23)) (k2.alloc _) hgrow (by simp [rowOf]; omega); have fy3 := y3.eight.1; have zy3 := y3.free8; have fy2 := y2.eight.1; have r0 : w5.cell? ⟨g5, 0, none⟩ = some (.int .u32 x0) := (by rw [World.ownsRow.cellAt hown5 0 (by omega), List.nil_append, List.getElem?_map, Hx0.out]; rfl); have rf := World.ownsRow.frozenAt hown5 0; have ne1 : g5 ≠ w3.heap.size := (by omega); have ne2 : w3.heap.size ≠ g5 := ne1.symm; have ne3 : w3.heap.size ≠ w.heap.size + 1 := (by omega); have ne4 : w.heap.size + 1 ≠ w3.heap.size := ne3.symm; have hL0 : (0 : Int) < (l1.length : Int) := (by omega))
        go_meet
        obtain ⟨x0', xs, rfl⟩ := List.exists_cons_of_ne_nil (show l1 ≠ [] from fun e => hn (by rw [e]; rfl))
        have hlg2 : (ss2 :: xs).length = (x0' :: xs).length := by simp
        have o1 := rowV_other (p := ⟨w3.heap.size, 7, none⟩) hown5 (.slice (some ⟨g5, 0, none⟩) (x0' :: xs).length c5) (by simp [rowOf]; omega)
        have o2 := (World.ownsRow.stored o1 0 (.int .u32 ss2)).1
        have hbl : Below w3.heap.size w3 w5 := (hq.alloc hq.size (.cells #[] 23)).grown hgrow (by simp; omega) (fun k hk => by simp [rowOf] at hk; omega)
        refine ⟨p1, e1, m1, t1, q1, ti1, ss1, some ⟨g5, 0, none⟩, c5, ss2 :: xs, 12, 16, rfl, rfl, by omega, by omega, ?_, ?_, (hbl.setCell (p := ⟨w3.heap.size, 7, none⟩) (Nat.le_refl _) _).setCell (p := ⟨g5, 0, none⟩) (by show w3.heap.size ≤ g5; omega) _, ⟨hf1.1, hf1.2.1, hf1.2.2.1, ?_⟩, ht1, bits5 _ _ _ _ _ _ _ _ _ _⟩
        · rw [hlg2]
          exact (y3.set 7 _ (by simp)).other (p := ⟨g5, 0, none⟩) _ ne1
        · rw [hlg2]
          have := Sl.of_own o2
          simpa [Us, u32V] using this
        · intro z hz
          rcases List.mem_cons.1 hz with rfl | hz
          · exact hf2.2.2.1
          · exact hf1.2.2.2 z (List.mem_cons_of_mem _ hz)
  case rest =>
    clear k1 k2 k3 hl1 hx hq hB hBq fk1 fk2 fk3
    obtain ⟨p, e, m, t, q, ti, ss, A, c, l, fr, en, rfl, rfl, hen, hfe, k3, hlg, hq, hf, ht, hR⟩ := hcut
    have hl1 := Us.below Hl3.out hq
    have hx := Bs.below Hx3.out hq
    have k1 := Box.call Hk1.out hq
    have hB := Below.trans HB3.out (hq.mono (Below.size HB3.out))
    clear hl3 hx3 Hl3 Hx3 Hk1 HB3
    have hlen : l.length = l1.length := hR.1
    have hbits := Lib.hid hR.2
    have hinj := Lib.hid (fun h1 h2 => headB_inj (h := ⟨p1, e1, m1, t1, q1, ti1, ss1, l1⟩) (k := ⟨p, e, m, t, q, ti, ss, l⟩) h1 hf1 h2 hf)
    have hll := Lib.hid (show (headB ⟨p, e, m, t, q, ti, ss, l⟩).length = (headB ⟨p1, e1, m1, t1, q1, ti1, ss1, l1⟩).length by rw [headB_length, headB_length]; show 12 + 4 * l.length = 12 + 4 * l1.length; omega)
    have hl72 := Lib.hid (show (headB ⟨p1, e1, m1, t1, q1, ti1, ss1, l1⟩).length ≤ 1000 by rw [headB_length]; show 12 + 4 * l1.length ≤ 1000; omega)
    have hw1 : (rightH ⟨p1, e1, m1, t1, q1, ti1, ss1, l1⟩ = true → writeH ⟨p1, e1, m1, t1, q1, ti1, ss1, l1⟩ = headB ⟨p1, e1, m1, t1, q1, ti1, ss1, l1⟩ ∧ writeE ⟨p1, e1, m1, t1, q1, ti1, ss1, l1⟩ = 0) ∧ (rightH ⟨p1, e1, m1, t1, q1, ti1, ss1, l1⟩ = false → writeH ⟨p1, e1, m1, t1, q1, ti1, ss1, l1⟩ = [] ∧ writeE ⟨p1, e1, m1, t1, q1, ti1, ss1, l1⟩ = 1) := ⟨fun h => ⟨if_pos h, if_pos h⟩, fun h => ⟨if_neg (by rw [h]; decide), if_neg (by rw [h]; decide)⟩⟩
    have hw2 : (rightH ⟨p, e, m, t, q, ti, ss, l⟩ = true → writeH ⟨p, e, m, t, q, ti, ss, l⟩ = headB ⟨p, e, m, t, q, ti, ss, l⟩ ∧ writeE ⟨p, e, m, t, q, ti, ss, l⟩ = 0) ∧ (rightH ⟨p, e, m, t, q, ti, ss, l⟩ = false → writeH ⟨p, e, m, t, q, ti, ss, l⟩ = [] ∧ writeE ⟨p, e, m, t, q, ti, ss, l⟩ = 1) := ⟨fun h => ⟨if_pos h, if_pos h⟩, fun h => ⟨if_neg (by rw [h]; decide), if_neg (by rw [h]; decide)⟩⟩
    have HW1 := Lib.hid hw1
    have HW2 := Lib.hid hw2
    clear hw1 hw2 hR W1
    have hl99 : l.length ≤ 99 := by omega
    clear hlen
    have WG := Lib.hid (fun W hl => WR.out p e m t q ti ss A l.length c l W hl (by omega) hf ht)
    have RG := Lib.hid (fun W hl => RI.out p e m t q ti ss A l.length c l W hl (by omega) hf ht)
    clear WR RI
    generalize rightH ⟨p1, e1, m1, t1, q1, ti1, ss1, l1⟩ = r1 at *
    generalize rightH ⟨p, e, m, t, q, ti, ss, l⟩ = r2 at *
    generalize headB ⟨p1, e1, m1, t1, q1, ti1, ss1, l1⟩ = Y1 at *
    generalize headB ⟨p, e, m, t, q, ti, ss, l⟩ = Y2 at *
    generalize writeH ⟨p1, e1, m1, t1, q1, ti1, ss1, l1⟩ = X1 at *
    generalize writeH ⟨p, e, m, t, q, ti, ss, l⟩ = X2 at *
    generalize writeE ⟨p1, e1, m1, t1, q1, ti1, ss1, l1⟩ = x1 at *
    generalize writeE ⟨p, e, m, t, q, ti, ss, l⟩ = x2 at *
    have fk1 := k1.eight.1
    have fk3 := k3.eight.1
    go_wp2_with fail
    refine (WG.out _ hlg).mono ?_
    rintro e w6 ⟨A6, c6, rfl, hy, hb⟩
    clear fk1 fk3
    replace hl1 := hl1.below hb
    replace hx := hx.below hb
    replace hlg := hlg.below hb
    replace k1 := k1.call hb
    replace k3 := k3.call hb
    replace hB := hB.trans (hb.mono hB.size)
    clear hb
    have fk1 := k1.eight.1
    have fk3 := k3.eight.1
    cases r1
    · obtain ⟨rfl, rfl⟩ := HW1.out.2 rfl
      go_wp2_with fail
      go_ret
      exact ⟨rfl, hB⟩
    · obtain ⟨rfl, rfl⟩ := HW1.out.1 rfl
      cases r2
      · obtain ⟨rfl, rfl⟩ := HW2.out.2 rfl
        go_wp2_with fail
        refine (RG.out _ hlg).mono ?_
        rintro e' w7 ⟨rfl, hb⟩
        clear fk1 fk3
        go_wp2_with fail
        go_ret
        exact ⟨rfl, hB.trans (hb.mono hB.size)⟩
      · obtain ⟨rfl, rfl⟩ := HW2.out.1 rfl
        have HI := Lib.hid (hinj.out rfl rfl)
        clear hinj HW1 HW2
        have hl10 := hl72.out
        have hle1 : ((X1.length : Int) != (X2.length : Int)) = false := by have := hll.out; rw [bne_eq_false_iff_eq]; omega
        have hle2 : X1.length ≤ X2.length := by have := hll.out; omega
        go_wp2_with fail
        go_loopw [14] (fun i W => (∃ k : Nat, k ≤ X1.length ∧ i = .int .i64 k) ∧ ∃ z, W = w6.drewN z) (fun i _ => X1.length - (intOf i).toNat)
        case atStart => exact ⟨⟨0, Nat.zero_le _, rfl⟩, 0, rfl⟩
        case round =>
          obtain ⟨⟨k, hk, rfl⟩, z, rfl⟩ := hrel
          by_cases hkl : k < X1.length
          · have hkl2 : (k : Int) < X1.length := by omega
            have hkl3 : (k : Int) < X2.length := by omega
            have hki : (0 : Int) ≤ k := by omega
            rcases (show k < fr ∨ (fr ≤ k ∧ en ≤ k) ∨ (fr ≤ k ∧ k < en) by omega) with ha | ⟨ha, hb2⟩ | ⟨ha, hb2⟩
            · have d1 : decide ((k : Int) < (fr : Int)) = true := by rw [decide_eq_true_eq]; omega
              obtain ⟨b, o, rfl, _, hcx⟩ := hx.at_ (by omega)
              obtain ⟨b', o', rfl, _, hcy⟩ := hy.at_ (by omega)
              have hcx2 := hcx k (by omega)
              have hcy2 := hcy k (by omega)
              have hv := hbits.out k (.inl ha)
              unfold g8 at hv
              rw [← hv] at hcy2
              generalize (X1.getD k 0).toNat = v at *
              clear hcx hcy hv
              go_wp2_with fail
              go_quiet (fail)
              go_wp2
              go_roundw
              case rel => exact ⟨⟨k + 1, by omega, by go_num⟩, z + nq, rfl⟩
              case measure => simp [intOf]; omega
            · have d1 : decide ((k : Int) < (fr : Int)) = false := by rw [decide_eq_false_iff_not]; omega
              have d2 : decide ((en : Int) ≤ (k : Int)) = true := by rw [decide_eq_true_eq]; omega
              obtain ⟨b, o, rfl, _, hcx⟩ := hx.at_ (by omega)
              obtain ⟨b', o', rfl, _, hcy⟩ := hy.at_ (by omega)
              have hcx2 := hcx k (by omega)
              have hcy2 := hcy k (by omega)
              have hv := hbits.out k (.inr hb2)
              unfold g8 at hv
              rw [← hv] at hcy2
              generalize (X1.getD k 0).toNat = v at *
              clear hcx hcy hv
              go_wp2_with fail
              go_quiet (fail)
              go_wp2
              go_roundw
              case rel => exact ⟨⟨k + 1, by omega, by go_num⟩, z + nq, rfl⟩
              case measure => simp [intOf]; omega
            · have d1 : decide ((k : Int) < (fr : Int)) = false := by rw [decide_eq_false_iff_not]; omega
              have d2 : decide ((en : Int) ≤ (k : Int)) = false := by rw [decide_eq_false_iff_not]; omega
              have d3 : decide (en ≤ k) = false := by rw [decide_eq_false_iff_not]; omega
              have d4 : decide (k < fr) = false := by rw [decide_eq_false_iff_not]; omega
              go_wp2_with fail
              go_quiet (fail)
              go_wp2
              go_roundw
              case rel => exact ⟨⟨k + 1, by omega, by go_num⟩, z + nq, rfl⟩
              case measure => simp [intOf]; omega
          · have hkl2 : ¬ (k : Int) < X1.length := by omega
            obtain ⟨bq, hbq⟩ : ∃ b, decide ((⟨p1, e1, m1, t1, q1, ti1, ss1, l1⟩ : Hd) = ⟨p, e, m, t, q, ti, ss, l⟩) = b := ⟨_, rfl⟩
            have HB := Lib.hid hbq
            have heq : (X1 == X2) = bq := by
              rw [← hbq, Bool.eq_iff_iff, beq_iff_eq, decide_eq_true_eq]
              exact HI.out
            clear hbq
            go_upto_region 38 with fail
            refine wp_region_held_drew (S := (fun W => ((convert 27 9 (.slice A3 X1.length c3)).run Try.prog W = .ok (.string ⟨X1.toArray⟩) W) ∧ ((convert 27 9 (.slice A6 X2.length c6)).run Try.prog W = .ok (.string ⟨X2.toArray⟩) W) ∧ (W.cell? ⟨w.heap.size, 0, none⟩ = some (.bool p1) ∧ W.cell? ⟨w.heap.size, 1, none⟩ = some (.bool e1) ∧ W.cell? ⟨w.heap.size, 2, none⟩ = some (.bool m1) ∧ W.cell? ⟨w.heap.size, 3, none⟩ = some (.int .i64 t1) ∧ W.cell? ⟨w.heap.size, 4, none⟩ = some (.int .u16 q1) ∧ W.cell? ⟨w.heap.size, 5, none⟩ = some (.int .u32 ti1) ∧ W.cell? ⟨w.heap.size, 6, none⟩ = some (.int .u32 ss1) ∧ W.cell? ⟨w.heap.size, 7, none⟩ = some (.slice A1 l1.length c1)) ∧ (W.cell? ⟨w3.heap.size, 0, none⟩ = some (.bool p) ∧ W.cell? ⟨w3.heap.size, 1, none⟩ = some (.bool e) ∧ W.cell? ⟨w3.heap.size, 2, none⟩ = some (.bool m) ∧ W.cell? ⟨w3.heap.size, 3, none⟩ = some (.int .i64 t) ∧ W.cell? ⟨w3.heap.size, 4, none⟩ = some (.int .u16 q) ∧ W.cell? ⟨w3.heap.size, 5, none⟩ = some (.int .u32 ti) ∧ W.cell? ⟨w3.heap.size, 6, none⟩ = some (.int .u32 ss) ∧ W.cell? ⟨w3.heap.size, 7, none⟩ = some (.slice A l.length c)))) (by kernel_rfl) ⟨str_of (Bs.drewN hx (z + 1)), str_of (Bs.drewN hy (z + 1)), fk1, fk3⟩ (fun hHeld => ?_)
            clear fk1 fk3
            refine wpAnyH_take (i := 0) (v := ?vR0) rfl (by kernel_rfl) (by kernel_rfl) (by kernel_rfl) (fun _ _ _ h => h) (Or.inl ⟨by rfl, ?hR0⟩) (by assumption) ?rR0
            case hR0 => (intro w hSw; (try dsimp only at hSw); go_simp; try with_reducible rfl)
            change wpAnyH _ _ _ _ _ _ _ (Act.put _ (some 122) _) _
            simp only [Act.put, List.setIfInBounds_toArray, List.set_cons_zero, List.set_cons_succ]
            refine wpAnyH_take (i := 1) (v := ?vR1) rfl (by kernel_rfl) (by kernel_rfl) (by kernel_rfl) (fun _ _ _ h => h) (Or.inl ⟨by rfl, ?hR1⟩) (by assumption) ?rR1
            case hR1 => (intro w hSw; (try dsimp only at hSw); go_simp; try with_reducible rfl)
            change wpAnyH _ _ _ _ _ _ _ (Act.put _ (some 123) _) _
            simp only [Act.put, List.setIfInBounds_toArray, List.set_cons_zero, List.set_cons_succ]
            refine wpAnyH_take (i := 2) (v := ?vR2) rfl (by kernel_rfl) (by kernel_rfl) (by kernel_rfl) (fun _ _ _ h => h) (Or.inl ⟨by rfl, ?hR2⟩) (by assumption) ?rR2
            case hR2 => (intro w hSw; (try dsimp only at hSw); go_simp; try with_reducible rfl)
            change wpAnyH _ _ _ _ _ _ _ (Act.put _ (some 124) _) _
            simp only [Act.put, List.setIfInBounds_toArray, List.set_cons_zero, List.set_cons_succ]
            refine wpAnyH_take (i := 3) (v := ?vR3) rfl (by kernel_rfl) (by kernel_rfl) (by kernel_rfl) (fun _ _ _ h => h) (Or.inl ⟨by rfl, ?hR3⟩) (by assumption) ?rR3
            case hR3 => (intro w hSw; (try dsimp only at hSw); go_simp; try with_reducible rfl)
            change wpAnyH _ _ _ _ _ _ _ (Act.put _ (some 125) _) _
            simp only [Act.put, List.setIfInBounds_toArray, List.set_cons_zero, List.set_cons_succ]
            refine wpAnyH_take (i := 4) (v := ?vR4) rfl (by kernel_rfl) (by kernel_rfl) (by kernel_rfl) (fun _ _ _ h => h) (Or.inl ⟨by rfl, ?hR4⟩) (by assumption) ?rR4
            case hR4 => (intro w hSw; (try dsimp only at hSw); go_simp; try with_reducible rfl)
            change wpAnyH _ _ _ _ _ _ _ (Act.put _ (some 126) _) _
            simp only [Act.put, List.setIfInBounds_toArray, List.set_cons_zero, List.set_cons_succ]
            refine wpAnyH_take (i := 5) (v := ?vR5) rfl (by kernel_rfl) (by kernel_rfl) (by kernel_rfl) (fun _ _ _ h => h) (Or.inl ⟨by rfl, ?hR5⟩) (by assumption) ?rR5
            case hR5 => (intro w hSw; (try dsimp only at hSw); go_simp; try with_reducible rfl)
            change wpAnyH _ _ _ _ _ _ _ (Act.put _ (some 127) _) _
            simp only [Act.put, List.setIfInBounds_toArray, List.set_cons_zero, List.set_cons_succ]
            refine wpAnyH_take (i := 6) (v := ?vR6) rfl (by kernel_rfl) (by kernel_rfl) (by kernel_rfl) (fun _ _ _ h => h) (Or.inl ⟨by rfl, ?hR6⟩) (by assumption) ?rR6
            case hR6 => (intro w hSw; (try dsimp only at hSw); go_simp; try with_reducible rfl)
            change wpAnyH _ _ _ _ _ _ _ (Act.put _ (some 128) _) _
            simp only [Act.put, List.setIfInBounds_toArray, List.set_cons_zero, List.set_cons_succ]
            refine wpAnyH_ready (rs := [7]) (by kernel_rfl) (by simp) ?_
            refine AllReadyH.cons rfl (fun K hK => ?_) AllReadyH.nil
            go_simp
            refine (rsameH_any p1 e1 m1 t1 q1 ti1 ss1 A1 l1.length c1 l1 p e m t q ti ss A l.length c l _ (Us.drewN hl1 (z + 1)) (Us.drewN hlg (z + 1))).mono ?_
            rintro e' wa ⟨rfl, hba⟩
            rw [HB.out]
            go_wp2_with fail
            have z1 := Bs.below (w := w6.drewN (z + 1)) hx hba
            have z2 := Bs.below (w := w6.drewN (z + 1)) hy hba
            have y1 : Box wa w.heap.size [.bool p1, .bool e1, .bool m1, .int .i64 t1, .int .u16 q1, .int .u32 ti1, .int .u32 ss1, .slice A1 l1.length c1] := Box.call (w := w6.drewN (z + 1)) k1 hba
            have y3 : Box wa w3.heap.size [.bool p, .bool e, .bool m, .int .i64 t, .int .u16 q, .int .u32 ti, .int .u32 ss, .slice A l.length c] := Box.call (w := w6.drewN (z + 1)) k3 hba
            refine hK.out _ _ ?_ (fun hHeld => ?_)
            · exact ⟨str_of z1, str_of z2, y1.eight.1, y3.eight.1⟩
            clear hK K
            try simp only [Act.put, List.setIfInBounds_toArray, List.set_cons_zero, List.set_cons_succ]
            refine wpAnyH_take (i := 8) (v := ?vR8) rfl (by kernel_rfl) (by kernel_rfl) (by kernel_rfl) (fun _ _ _ h => h) (Or.inl ⟨by rfl, ?hR8⟩) (by assumption) ?rR8
            case hR8 => (intro w hSw; (try dsimp only at hSw); go_simp; try with_reducible rfl)
            change wpAnyH _ _ _ _ _ _ _ (Act.put _ (some 130) _) _
            simp only [Act.put, List.setIfInBounds_toArray, List.set_cons_zero, List.set_cons_succ]
            refine wpAnyH_take (i := 9) (v := ?vR9) rfl (by kernel_rfl) (by kernel_rfl) (by kernel_rfl) (fun _ _ _ h => h) (Or.inl ⟨by rfl, ?hR9⟩) (by assumption) ?rR9
            case hR9 => (intro w hSw; (try dsimp only at hSw); go_simp; try with_reducible rfl)
            change wpAnyH _ _ _ _ _ _ _ (Act.put _ (some 6) _) _
            simp only [Act.put, List.setIfInBounds_toArray, List.set_cons_zero, List.set_cons_succ]
            refine wpAnyH_done (by kernel_rfl) ?_ _
            go_wp2_with fail
            go_ret
            exact ⟨rfl, hB.trans ((below_drewN (Below.refl _ w6) (z + 1)).trans (hba.mono (Nat.le_refl _)) |>.mono hB.size)⟩

theorem headBits_all (K : HeadCalls) (p1 e1 m1 : Bool) (t1 : Int) (q1 ti1 ss1 : Nat) (A1 : Option Addr) (n1 c1 : Nat) (l1 : List Nat) (p2 e2 m2 : Bool) (t2 : Int) (q2 ti2 ss2 : Nat) (A2 : Option Addr) (n2 c2 : Nat) (l2 : List Nat) (fld : Nat) (w : World) (hl1 : Us w A1 n1 c1 l1) (hf1 : fitsH ⟨p1, e1, m1, t1, q1, ti1, ss1, l1⟩) (ht1 : (Lit.int .i64 t1).wf = true) (hf2 : fitsH ⟨p2, e2, m2, t2, q2, ti2, ss2, l2⟩) (ht2 : (Lit.int .i64 t2).wf = true) (hfld : fld < 256) :
    Calls Try.prog 5 #[.agg #[.bool p1, .bool e1, .bool m1, .int .i64 t1, .int .u16 q1, .int .u32 ti1, .int .u32 ss1, .slice A1 n1 c1], .agg #[.bool p2, .bool e2, .bool m2, .int .i64 t2, .int .u16 q2, .int .u32 ti2, .int .u32 ss2, .slice A2 n2 c2], .int .u8 fld] w fun e w' => e = .returned (.bool true) ∧ Below w.heap.size w w' := by
  by_cases h : 99 < n1
  · exact headBits_big K p1 e1 m1 t1 q1 ti1 ss1 A1 n1 c1 p2 e2 m2 t2 q2 ti2 ss2 A2 n2 c2 fld w (Nat.le_trans (Sl.le hl1) (Sl.cap hl1)) h
  · have hln := hl1.len
    subst hln
    exact headBits_main K p1 e1 m1 t1 q1 ti1 ss1 A1 c1 l1 p2 e2 m2 t2 q2 ti2 ss2 A2 n2 c2 l2 fld w hl1 hf1 ht1 hf2 ht2 (by omega) hfld

end Go.Proofs.Ytjbpjmjieomoiaa

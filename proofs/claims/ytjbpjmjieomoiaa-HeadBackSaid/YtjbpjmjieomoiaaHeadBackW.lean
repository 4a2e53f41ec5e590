/-
  The walk of the statement HeadBack, under the contracts of package head's calls.
-/
import Derived.Test.YtjbpjmjieomoiaaHeadK
import Derived.Test.YtjbpjmjieomoiaaReg
namespace Go.Proofs.Ytjbpjmjieomoiaa
open Go.RowKit

set_option maxRecDepth 100000 in
set_option maxHeartbeats 400000 in
theorem headBack_big (K : HeadCalls) (p1 e1 m1 : Bool) (t1 : Int) (q1 ti1 ss1 : Nat) (A1 : Option Addr) (n1 c1 : Nat) (p2 e2 m2 : Bool) (t2 : Int) (q2 ti2 ss2 : Nat) (A2 : Option Addr) (n2 c2 : Nat) (B : Option Addr) (lb cb : Nat) (cut : Int) (w : World) (hn1 : n1 ≤ maxLen) (hn2 : n2 ≤ maxLen) (hl : lb ≤ maxLen) (h : 3000 < lb ∨ 99 < n1 ∨ 99 < n2) :
    Calls Try.prog 4 #[.agg #[.bool p1, .bool e1, .bool m1, .int .i64 t1, .int .u16 q1, .int .u32 ti1, .int .u32 ss1, .slice A1 n1 c1], .agg #[.bool p2, .bool e2, .bool m2, .int .i64 t2, .int .u16 q2, .int .u32 ti2, .int .u32 ss2, .slice A2 n2 c2], .slice B lb cb, .int .u8 cut] w fun e w' => e = .returned (.bool true) ∧ Below w.heap.size w w' := by
  unfold maxLen at hn1 hn2 hl
  rcases (show 3000 < (lb : Int) ∨ ((lb : Int) ≤ 3000 ∧ 99 < (n1 : Int)) ∨ ((lb : Int) ≤ 3000 ∧ (n1 : Int) ≤ 99 ∧ 99 < (n2 : Int)) by omega) with h | ⟨h0, h⟩ | ⟨h0, h1, h⟩
  all_goals
    go_enter Try.func4, Try.ntmps4
    go_wp2_with fail
    refine (awake_any K _).mono ?_
    rintro e w1 ⟨rfl, hb⟩
    have k1 := ((Box.new w [.bool p1, .bool e1, .bool m1, .int .i64 t1, .int .u16 q1, .int .u32 ti1, .int .u32 ss1, .slice A1 n1 c1] 26).alloc (.cells #[.bool p2, .bool e2, .bool m2, .int .i64 t2, .int .u16 q2, .int .u32 ti2, .int .u32 ss2, .slice A2 n2 c2] 26)).call hb
    have k2 := (Box.new (w.alloc (.cells #[.bool p1, .bool e1, .bool m1, .int .i64 t1, .int .u16 q1, .int .u32 ti1, .int .u32 ss1, .slice A1 n1 c1] 26)) [.bool p2, .bool e2, .bool m2, .int .i64 t2, .int .u16 q2, .int .u32 ti2, .int .u32 ss2, .slice A2 n2 c2] 26).call hb
    rw [World.size_alloc] at k2
    have hB := (below2 w (.cells #[.bool p1, .bool e1, .bool m1, .int .i64 t1, .int .u16 q1, .int .u32 ti1, .int .u32 ss1, .slice A1 n1 c1] 26) (.cells #[.bool p2, .bool e2, .bool m2, .int .i64 t2, .int .u16 q2, .int .u32 ti2, .int .u32 ss2, .slice A2 n2 c2] 26)).trans (hb.mono (by simp; omega))
    have fk1 := k1.eight.1
    have fk2 := k2.eight.1
    go_wp2_with fail
    go_ret
    exact ⟨rfl, hB⟩

theorem byte_size (w : World) : (Go.sizeOf 5).run Try.prog w = .ok 1 w := run_size_one byte_info w
theorem Us.empty {w w' : World} {A : Option Addr} {c : Nat} (h : Us w A 0 c []) : Us w' A 0 c [] := ⟨rfl, h.2.1, h.2.2.1, h.2.2.2.1, fun k => absurd k (by omega)⟩
theorem wf_i64 {x : Int} (h1 : -9223372036854775808 ≤ x) (h2 : x ≤ 9223372036854775807) : (Lit.int .i64 x).wf = true := by
  have e1 : IntKind.i64.min = -9223372036854775808 := rfl
  have e2 : IntKind.i64.max = 9223372036854775807 := rfl
  simp only [Lit.wf, Bool.and_eq_true, decide_eq_true_eq]
  omega

set_option maxRecDepth 100000 in
set_option maxHeartbeats 4000000 in
theorem headBack_main (K : HeadCalls) (p1 e1 m1 : Bool) (t1 : Int) (q1 ti1 ss1 : Nat) (A1 : Option Addr) (n1 c1 : Nat) (l1 : List Nat) (p2 e2 m2 : Bool) (t2 : Int) (q2 ti2 ss2 : Nat) (A2 : Option Addr) (n2 c2 : Nat) (l2 : List Nat) (B : Option Addr) (lb cb : Nat) (s : List UInt8) (cut : Nat) (w : World) (hl1 : Us w A1 n1 c1 l1) (hl2 : Us w A2 n2 c2 l2) (hs : Bs w B lb cb s) (hf1 : fitsH ⟨p1, e1, m1, t1, q1, ti1, ss1, l1⟩) (ht1 : (Lit.int .i64 t1).wf = true) (hf2 : fitsH ⟨p2, e2, m2, t2, q2, ti2, ss2, l2⟩) (ht2 : (Lit.int .i64 t2).wf = true) (hn1 : n1 ≤ 99) (hn2 : n2 ≤ 99) (hlb : lb ≤ 3000) (hcut : cut < 256) :
    Calls Try.prog 4 #[.agg #[.bool p1, .bool e1, .bool m1, .int .i64 t1, .int .u16 q1, .int .u32 ti1, .int .u32 ss1, .slice A1 n1 c1], .agg #[.bool p2, .bool e2, .bool m2, .int .i64 t2, .int .u16 q2, .int .u32 ti2, .int .u32 ss2, .slice A2 n2 c2], .slice B lb cb, .int .u8 cut] w fun e w' => e = .returned (.bool true) ∧ Below w.heap.size w w' := by
  have W1 := Lib.hid (fun W hl => K.write p1 e1 m1 t1 q1 ti1 ss1 A1 n1 c1 l1 W hl (by omega) hf1 ht1)
  have W2 := Lib.hid (fun W hl => K.write p2 e2 m2 t2 q2 ti2 ss2 A2 n2 c2 l2 W hl (by omega) hf2 ht2)
  have RD := Lib.hid K.read
  have WR := Lib.hid K.write
  have RI := Lib.hid K.right
  have hX : (rightH ⟨p1, e1, m1, t1, q1, ti1, ss1, l1⟩ = true → 12 ≤ (headB ⟨p1, e1, m1, t1, q1, ti1, ss1, l1⟩).length ∧ (headB ⟨p1, e1, m1, t1, q1, ti1, ss1, l1⟩).length ≤ 72 ∧ (∀ t, readH (headB ⟨p1, e1, m1, t1, q1, ti1, ss1, l1⟩ ++ t) = ⟨p1, e1, m1, t1, q1, ti1, ss1, l1⟩ ∧ readN (headB ⟨p1, e1, m1, t1, q1, ti1, ss1, l1⟩ ++ t) = (headB ⟨p1, e1, m1, t1, q1, ti1, ss1, l1⟩).length ∧ hErr (headB ⟨p1, e1, m1, t1, q1, ti1, ss1, l1⟩ ++ t) = 0) ∧ (∀ k, k < (headB ⟨p1, e1, m1, t1, q1, ti1, ss1, l1⟩).length → hErr ((headB ⟨p1, e1, m1, t1, q1, ti1, ss1, l1⟩).take k) = 2) ∧ (rightH ⟨p2, e2, m2, t2, q2, ti2, ss2, l2⟩ = true → (headB ⟨p1, e1, m1, t1, q1, ti1, ss1, l1⟩ = headB ⟨p2, e2, m2, t2, q2, ti2, ss2, l2⟩ ↔ (⟨p1, e1, m1, t1, q1, ti1, ss1, l1⟩ : Hd) = ⟨p2, e2, m2, t2, q2, ti2, ss2, l2⟩))) := by
    intro h
    have hlen := headB_length ⟨p1, e1, m1, t1, q1, ti1, ss1, l1⟩
    have h16 : l1.length < 16 := by unfold rightH at h; rw [decide_eq_true_eq] at h; exact h.2.2
    exact ⟨by omega, by rw [hlen]; show 12 + 4 * l1.length ≤ 72; omega, fun t => readH_head h hf1 t, fun k hk => head_cut h k hk, fun h2 => headB_inj h hf1 h2 hf2⟩
  have HX := Lib.hid hX
  clear hX
  have hw1 : (rightH ⟨p1, e1, m1, t1, q1, ti1, ss1, l1⟩ = true → writeH ⟨p1, e1, m1, t1, q1, ti1, ss1, l1⟩ = headB ⟨p1, e1, m1, t1, q1, ti1, ss1, l1⟩ ∧ writeE ⟨p1, e1, m1, t1, q1, ti1, ss1, l1⟩ = 0) ∧ (rightH ⟨p1, e1, m1, t1, q1, ti1, ss1, l1⟩ = false → writeH ⟨p1, e1, m1, t1, q1, ti1, ss1, l1⟩ = [] ∧ writeE ⟨p1, e1, m1, t1, q1, ti1, ss1, l1⟩ = 1) := ⟨fun h => ⟨if_pos h, if_pos h⟩, fun h => ⟨if_neg (by rw [h]; decide), if_neg (by rw [h]; decide)⟩⟩
  have hw2 : (rightH ⟨p2, e2, m2, t2, q2, ti2, ss2, l2⟩ = true → writeH ⟨p2, e2, m2, t2, q2, ti2, ss2, l2⟩ = headB ⟨p2, e2, m2, t2, q2, ti2, ss2, l2⟩ ∧ writeE ⟨p2, e2, m2, t2, q2, ti2, ss2, l2⟩ = 0) ∧ (rightH ⟨p2, e2, m2, t2, q2, ti2, ss2, l2⟩ = false → writeH ⟨p2, e2, m2, t2, q2, ti2, ss2, l2⟩ = [] ∧ writeE ⟨p2, e2, m2, t2, q2, ti2, ss2, l2⟩ = 1) := ⟨fun h => ⟨if_pos h, if_pos h⟩, fun h => ⟨if_neg (by rw [h]; decide), if_neg (by rw [h]; decide)⟩⟩
  have HW1 := Lib.hid hw1
  have HW2 := Lib.hid hw2
  clear hw1 hw2
  have HS := Lib.hid (show hErr s = 0 → rightH (readH s) = true ∧ fitsH (readH s) ∧ headB (readH s) = s.take (readN s) ∧ 12 ≤ readN s ∧ readN s ≤ s.length from readH_right)
  have hslen := hs.len
  generalize rightH ⟨p1, e1, m1, t1, q1, ti1, ss1, l1⟩ = r1 at *
  generalize rightH ⟨p2, e2, m2, t2, q2, ti2, ss2, l2⟩ = r2 at *
  generalize headB ⟨p1, e1, m1, t1, q1, ti1, ss1, l1⟩ = Y1 at *
  generalize headB ⟨p2, e2, m2, t2, q2, ti2, ss2, l2⟩ = Y2 at *
  generalize writeH ⟨p1, e1, m1, t1, q1, ti1, ss1, l1⟩ = X1 at *
  generalize writeH ⟨p2, e2, m2, t2, q2, ti2, ss2, l2⟩ = X2 at *
  generalize writeE ⟨p1, e1, m1, t1, q1, ti1, ss1, l1⟩ = x1 at *
  generalize writeE ⟨p2, e2, m2, t2, q2, ti2, ss2, l2⟩ = x2 at *
  go_enter Try.func4, Try.ntmps4
  go_wp2_with fail
  refine (awake_any K _).mono ?_
  rintro e' w1 ⟨rfl, hb⟩
  have k1 := ((Box.new w [.bool p1, .bool e1, .bool m1, .int .i64 t1, .int .u16 q1, .int .u32 ti1, .int .u32 ss1, .slice A1 n1 c1] 26).alloc (.cells #[.bool p2, .bool e2, .bool m2, .int .i64 t2, .int .u16 q2, .int .u32 ti2, .int .u32 ss2, .slice A2 n2 c2] 26)).call hb
  have k2 := (Box.new (w.alloc (.cells #[.bool p1, .bool e1, .bool m1, .int .i64 t1, .int .u16 q1, .int .u32 ti1, .int .u32 ss1, .slice A1 n1 c1] 26)) [.bool p2, .bool e2, .bool m2, .int .i64 t2, .int .u16 q2, .int .u32 ti2, .int .u32 ss2, .slice A2 n2 c2] 26).call hb
  rw [World.size_alloc] at k2
  have hB := (below2 w (.cells #[.bool p1, .bool e1, .bool m1, .int .i64 t1, .int .u16 q1, .int .u32 ti1, .int .u32 ss1, .slice A1 n1 c1] 26) (.cells #[.bool p2, .bool e2, .bool m2, .int .i64 t2, .int .u16 q2, .int .u32 ti2, .int .u32 ss2, .slice A2 n2 c2] 26)).trans (hb.mono (by simp; omega))
  replace hl1 := ((hl1.alloc (.cells #[.bool p1, .bool e1, .bool m1, .int .i64 t1, .int .u16 q1, .int .u32 ti1, .int .u32 ss1, .slice A1 n1 c1] 26)).alloc (.cells #[.bool p2, .bool e2, .bool m2, .int .i64 t2, .int .u16 q2, .int .u32 ti2, .int .u32 ss2, .slice A2 n2 c2] 26)).below hb
  replace hl2 := ((hl2.alloc (.cells #[.bool p1, .bool e1, .bool m1, .int .i64 t1, .int .u16 q1, .int .u32 ti1, .int .u32 ss1, .slice A1 n1 c1] 26)).alloc (.cells #[.bool p2, .bool e2, .bool m2, .int .i64 t2, .int .u16 q2, .int .u32 ti2, .int .u32 ss2, .slice A2 n2 c2] 26)).below hb
  replace hs := ((hs.alloc (.cells #[.bool p1, .bool e1, .bool m1, .int .i64 t1, .int .u16 q1, .int .u32 ti1, .int .u32 ss1, .slice A1 n1 c1] 26)).alloc (.cells #[.bool p2, .bool e2, .bool m2, .int .i64 t2, .int .u16 q2, .int .u32 ti2, .int .u32 ss2, .slice A2 n2 c2] 26)).below hb
  clear hb
  have fk1 := k1.eight.1
  have fk2 := k2.eight.1
  go_wp2_with fail
  refine (W1.out _ hl1).mono ?_
  rintro e w2 ⟨A3, c3, rfl, hx, hb⟩
  clear fk1 fk2
  replace hl1 := hl1.below hb
  replace hl2 := hl2.below hb
  replace hs := hs.below hb
  replace k1 := k1.call hb
  replace k2 := k2.call hb
  replace hB := hB.trans (hb.mono hB.size)
  clear hb
  have fk1 := k1.eight.1
  have fk2 := k2.eight.1
  go_wp2_with fail
  refine (W2.out _ hl2).mono ?_
  rintro e w3 ⟨A4, c4, rfl, hy, hb⟩
  clear fk1 fk2
  replace hl1 := hl1.below hb
  replace hl2 := hl2.below hb
  replace hs := hs.below hb
  replace k1 := k1.call hb
  replace k2 := k2.call hb
  replace hx := hx.below hb
  replace hB := hB.trans (hb.mono hB.size)
  clear hb
  have fk1 := k1.eight.1
  have fk2 := k2.eight.1
  go_upto_if 49 with fail
  go_cut [] (fun W => Below w3.heap.size w3 W)
  case first =>
    cases r1
    · obtain ⟨rfl, rfl⟩ := HW1.out.2 rfl
      go_wp2_with fail
      go_meet
      exact Below.refl _ _
    · obtain ⟨rfl, rfl⟩ := HW1.out.1 rfl
      obtain ⟨hx1, hx2, hx3, hx4, hx5⟩ := HX.out rfl
      have HX3 := Lib.hid hx3
      have HX4 := Lib.hid hx4
      have HX5 := Lib.hid hx5
      clear hx3 hx4 hx5
      go_wp2_with (at_builtin; first | (refine wpList_app _ rfl (.tmp 51) (.tmp 52) 27 rfl w3.heap.size 5 Try.underlying27 byte_info (some ⟨w3.heap.size, 0, none⟩) 0 0 [] rfl (own_empty w3 _ _ (Nat.le_refl _)) A3 X1.length c3 X1 rfl (hx.alloc _) (by omega) (by simp) ?_; intro A5 c5 w5 hown5 hb5; rw [Nat.zero_add] at hown5; rw [List.nil_append] at hown5; replace hb5 : Below w3.heap.size w3 w5 := ((Below.refl _ w3).alloc (Nat.le_refl _) _).trans hb5; have hsz5 := hb5.size; rw [Nat.zero_add]) | go_loud (refine wpList_app _ rfl (.tmp 53) (.tmp 54) 27 rfl w3.heap.size 5 Try.underlying27 byte_info A5 X1.length c5 X1 rfl hown5 B lb cb s rfl (hs.below hb5) (by omega) (by omega) ?_; intro A6 c6 w6 hown6 hb6))
      have hb : Below w3.heap.size w3 w6 := hb5.trans hb6
      clear hb5 hb6 hown5
      have hq := hb
      clear fk1 fk2
      replace hl1 := hl1.below hb
      replace hl2 := hl2.below hb
      replace hs := hs.below hb
      replace k1 := k1.call hb
      replace k2 := k2.call hb
      replace hx := hx.below hb
      replace hy := hy.below hb
      replace hB := hB.trans (hb.mono hB.size)
      clear hb
      have fk1 := k1.eight.1
      have fk2 := k2.eight.1
      have hxs := hown6.bs
      refine (RD.out A6 (X1.length + lb) c6 (X1 ++ s) w6 hxs (by omega)).mono ?_
      rintro e' w7 ⟨B7, d7, rfl, hz, hb⟩
      rw [(HX3.out s).1, (HX3.out s).2.1, (HX3.out s).2.2] at *
      dsimp only [hdV] at hz ⊢
      replace hq := hq.trans (hb.mono hq.size)
      clear fk1 fk2
      replace hl1 := hl1.below hb
      replace hl2 := hl2.below hb
      replace hs := hs.below hb
      replace k1 := k1.call hb
      replace k2 := k2.call hb
      replace hx := hx.below hb
      replace hy := hy.below hb
      replace hB := hB.trans (hb.mono hB.size)
      clear hb
      have fk1 := k1.eight.1
      have fk2 := k2.eight.1
      have w7s := hq.size
      clear fk1 fk2
      have k3 := Box.new w7 [.bool p1, .bool e1, .bool m1, .int .i64 t1, .int .u16 q1, .int .u32 ti1, .int .u32 ss1, .slice B7 l1.length d7] 26
      replace hl1 := hl1.alloc (.cells #[.bool p1, .bool e1, .bool m1, .int .i64 t1, .int .u16 q1, .int .u32 ti1, .int .u32 ss1, .slice B7 l1.length d7] 26)
      replace hl2 := hl2.alloc (.cells #[.bool p1, .bool e1, .bool m1, .int .i64 t1, .int .u16 q1, .int .u32 ti1, .int .u32 ss1, .slice B7 l1.length d7] 26)
      replace hs := hs.alloc (.cells #[.bool p1, .bool e1, .bool m1, .int .i64 t1, .int .u16 q1, .int .u32 ti1, .int .u32 ss1, .slice B7 l1.length d7] 26)
      replace k1 := k1.alloc (.cells #[.bool p1, .bool e1, .bool m1, .int .i64 t1, .int .u16 q1, .int .u32 ti1, .int .u32 ss1, .slice B7 l1.length d7] 26)
      replace k2 := k2.alloc (.cells #[.bool p1, .bool e1, .bool m1, .int .i64 t1, .int .u16 q1, .int .u32 ti1, .int .u32 ss1, .slice B7 l1.length d7] 26)
      replace hx := hx.alloc (.cells #[.bool p1, .bool e1, .bool m1, .int .i64 t1, .int .u16 q1, .int .u32 ti1, .int .u32 ss1, .slice B7 l1.length d7] 26)
      replace hy := hy.alloc (.cells #[.bool p1, .bool e1, .bool m1, .int .i64 t1, .int .u16 q1, .int .u32 ti1, .int .u32 ss1, .slice B7 l1.length d7] 26)
      replace hz := hz.alloc (.cells #[.bool p1, .bool e1, .bool m1, .int .i64 t1, .int .u16 q1, .int .u32 ti1, .int .u32 ss1, .slice B7 l1.length d7] 26)
      replace hB := hB.alloc hB.size (.cells #[.bool p1, .bool e1, .bool m1, .int .i64 t1, .int .u16 q1, .int .u32 ti1, .int .u32 ss1, .slice B7 l1.length d7] 26)
      have fk1 := k1.eight.1
      have fk2 := k2.eight.1
      have fk3 := k3.eight.1
      replace hq := hq.alloc hq.size (.cells #[.bool p1, .bool e1, .bool m1, .int .i64 t1, .int .u16 q1, .int .u32 ti1, .int .u32 ss1, .slice B7 l1.length d7] 26)
      go_upto_region 9 with fail
      generalize hw8 : w7.alloc (.cells #[.bool p1, .bool e1, .bool m1, .int .i64 t1, .int .u16 q1, .int .u32 ti1, .int .u32 ss1, .slice B7 l1.length d7] 26) = w8 at *
      clear hw8
      go_cut [92] (fun v W => v = .bool false ∧ Below w8.heap.size w8 W)
      case first =>
        cases r2
        · obtain ⟨rfl, rfl⟩ := HW2.out.2 rfl
          have hd12 : decide ((X1.length : Int) < 12) = false := by rw [decide_eq_false_iff_not]; omega
          refine wp_region_held_drew (S := (fun W => ((convert 27 9 (.slice A3 X1.length c3)).run Try.prog W = .ok (.string ⟨X1.toArray⟩) W) ∧ (W.cell? ⟨w.heap.size, 0, none⟩ = some (.bool p1) ∧ W.cell? ⟨w.heap.size, 1, none⟩ = some (.bool e1) ∧ W.cell? ⟨w.heap.size, 2, none⟩ = some (.bool m1) ∧ W.cell? ⟨w.heap.size, 3, none⟩ = some (.int .i64 t1) ∧ W.cell? ⟨w.heap.size, 4, none⟩ = some (.int .u16 q1) ∧ W.cell? ⟨w.heap.size, 5, none⟩ = some (.int .u32 ti1) ∧ W.cell? ⟨w.heap.size, 6, none⟩ = some (.int .u32 ss1) ∧ W.cell? ⟨w.heap.size, 7, none⟩ = some (.slice A1 n1 c1)) ∧ (W.cell? ⟨(w.heap.size + 1), 0, none⟩ = some (.bool p2) ∧ W.cell? ⟨(w.heap.size + 1), 1, none⟩ = some (.bool e2) ∧ W.cell? ⟨(w.heap.size + 1), 2, none⟩ = some (.bool m2) ∧ W.cell? ⟨(w.heap.size + 1), 3, none⟩ = some (.int .i64 t2) ∧ W.cell? ⟨(w.heap.size + 1), 4, none⟩ = some (.int .u16 q2) ∧ W.cell? ⟨(w.heap.size + 1), 5, none⟩ = some (.int .u32 ti2) ∧ W.cell? ⟨(w.heap.size + 1), 6, none⟩ = some (.int .u32 ss2) ∧ W.cell? ⟨(w.heap.size + 1), 7, none⟩ = some (.slice A2 n2 c2)) ∧ (W.cell? ⟨w7.heap.size, 0, none⟩ = some (.bool p1) ∧ W.cell? ⟨w7.heap.size, 1, none⟩ = some (.bool e1) ∧ W.cell? ⟨w7.heap.size, 2, none⟩ = some (.bool m1) ∧ W.cell? ⟨w7.heap.size, 3, none⟩ = some (.int .i64 t1) ∧ W.cell? ⟨w7.heap.size, 4, none⟩ = some (.int .u16 q1) ∧ W.cell? ⟨w7.heap.size, 5, none⟩ = some (.int .u32 ti1) ∧ W.cell? ⟨w7.heap.size, 6, none⟩ = some (.int .u32 ss1) ∧ W.cell? ⟨w7.heap.size, 7, none⟩ = some (.slice B7 l1.length d7)))) (by kernel_rfl) ⟨str_of hx.drew, fk1, fk2, fk3⟩ (fun hHeld => ?_)
          clear fk1 fk2 fk3
          refine wpAnyH_take (i := 0) (v := ?vP0) rfl (by kernel_rfl) (by kernel_rfl) (by kernel_rfl) (fun _ _ _ h => h) (Or.inl ⟨by rfl, ?hP0⟩) (by assumption) ?rP0
          case hP0 => (intro w hSw; (try dsimp only at hSw); go_simp; try with_reducible rfl)
          change wpAnyH _ _ _ _ _ _ _ (Act.put _ (some 60) _) _
          simp only [Act.put, List.setIfInBounds_toArray, List.set_cons_zero, List.set_cons_succ]
          refine wpAnyH_take (i := 1) (v := ?vP1) rfl (by kernel_rfl) (by kernel_rfl) (by kernel_rfl) (fun _ _ _ h => h) (Or.inl ⟨by rfl, ?hP1⟩) (by assumption) ?rP1
          case hP1 => (intro w hSw; (try dsimp only at hSw); go_simp; try with_reducible rfl)
          change wpAnyH _ _ _ _ _ _ _ (Act.put _ (some 61) _) _
          simp only [Act.put, List.setIfInBounds_toArray, List.set_cons_zero, List.set_cons_succ]
          refine wpAnyH_take (i := 2) (v := ?vP2) rfl (by kernel_rfl) (by kernel_rfl) (by kernel_rfl) (fun _ _ _ h => h) (Or.inl ⟨by rfl, ?hP2⟩) (by assumption) ?rP2
          case hP2 => (intro w hSw; (try dsimp only at hSw); go_simp; try with_reducible rfl)
          change wpAnyH _ _ _ _ _ _ _ (Act.put _ (some 62) _) _
          simp only [Act.put, List.setIfInBounds_toArray, List.set_cons_zero, List.set_cons_succ]
          refine wpAnyH_take (i := 3) (v := ?vP3) rfl (by kernel_rfl) (by kernel_rfl) (by kernel_rfl) (fun _ _ _ h => h) (Or.inl ⟨by rfl, ?hP3⟩) (by assumption) ?rP3
          case hP3 => (intro w hSw; (try dsimp only at hSw); go_simp; try with_reducible rfl)
          change wpAnyH _ _ _ _ _ _ _ (Act.put _ (some 63) _) _
          simp only [Act.put, List.setIfInBounds_toArray, List.set_cons_zero, List.set_cons_succ]
          refine wpAnyH_take (i := 4) (v := ?vP4) rfl (by kernel_rfl) (by kernel_rfl) (by kernel_rfl) (fun _ _ _ h => h) (Or.inl ⟨by rfl, ?hP4⟩) (by assumption) ?rP4
          case hP4 => (intro w hSw; (try dsimp only at hSw); go_simp; try with_reducible rfl)
          change wpAnyH _ _ _ _ _ _ _ (Act.put _ (some 64) _) _
          simp only [Act.put, List.setIfInBounds_toArray, List.set_cons_zero, List.set_cons_succ]
          refine wpAnyH_take (i := 5) (v := ?vP5) rfl (by kernel_rfl) (by kernel_rfl) (by kernel_rfl) (fun _ _ _ h => h) (Or.inl ⟨by rfl, ?hP5⟩) (by assumption) ?rP5
          case hP5 => (intro w hSw; (try dsimp only at hSw); go_simp; try with_reducible rfl)
          change wpAnyH _ _ _ _ _ _ _ (Act.put _ (some 65) _) _
          simp only [Act.put, List.setIfInBounds_toArray, List.set_cons_zero, List.set_cons_succ]
          refine wpAnyH_take (i := 6) (v := ?vP6) rfl (by kernel_rfl) (by kernel_rfl) (by kernel_rfl) (fun _ _ _ h => h) (Or.inl ⟨by rfl, ?hP6⟩) (by assumption) ?rP6
          case hP6 => (intro w hSw; (try dsimp only at hSw); go_simp; try with_reducible rfl)
          change wpAnyH _ _ _ _ _ _ _ (Act.put _ (some 66) _) _
          simp only [Act.put, List.setIfInBounds_toArray, List.set_cons_zero, List.set_cons_succ]
          refine wpAnyH_take (i := 7) (v := ?vP7) rfl (by kernel_rfl) (by kernel_rfl) (by kernel_rfl) (fun _ _ _ h => h) (Or.inl ⟨by rfl, ?hP7⟩) (by assumption) ?rP7
          case hP7 => (intro w hSw; (try dsimp only at hSw); go_simp; try with_reducible rfl)
          change wpAnyH _ _ _ _ _ _ _ (Act.put _ (some 67) _) _
          simp only [Act.put, List.setIfInBounds_toArray, List.set_cons_zero, List.set_cons_succ]
          refine wpAnyH_take (i := 8) (v := ?vP8) rfl (by kernel_rfl) (by kernel_rfl) (by kernel_rfl) (fun _ _ _ h => h) (Or.inl ⟨by rfl, ?hP8⟩) (by assumption) ?rP8
          case hP8 => (intro w hSw; (try dsimp only at hSw); go_simp; try with_reducible rfl)
          change wpAnyH _ _ _ _ _ _ _ (Act.put _ (some 68) _) _
          simp only [Act.put, List.setIfInBounds_toArray, List.set_cons_zero, List.set_cons_succ]
          refine wpAnyH_take (i := 9) (v := ?vP9) rfl (by kernel_rfl) (by kernel_rfl) (by kernel_rfl) (fun _ _ _ h => h) (Or.inl ⟨by rfl, ?hP9⟩) (by assumption) ?rP9
          case hP9 => (intro w hSw; (try dsimp only at hSw); go_simp; try with_reducible rfl)
          change wpAnyH _ _ _ _ _ _ _ (Act.put _ (some 69) _) _
          simp only [Act.put, List.setIfInBounds_toArray, List.set_cons_zero, List.set_cons_succ]
          refine wpAnyH_take (i := 10) (v := ?vP10) rfl (by kernel_rfl) (by kernel_rfl) (by kernel_rfl) (fun _ _ _ h => h) (Or.inl ⟨by rfl, ?hP10⟩) (by assumption) ?rP10
          case hP10 => (intro w hSw; (try dsimp only at hSw); go_simp; try with_reducible rfl)
          change wpAnyH _ _ _ _ _ _ _ (Act.put _ (some 70) _) _
          simp only [Act.put, List.setIfInBounds_toArray, List.set_cons_zero, List.set_cons_succ]
          refine wpAnyH_take (i := 11) (v := ?vP11) rfl (by kernel_rfl) (by kernel_rfl) (by kernel_rfl) (fun _ _ _ h => h) (Or.inl ⟨by rfl, ?hP11⟩) (by assumption) ?rP11
          case hP11 => (intro w hSw; (try dsimp only at hSw); go_simp; try with_reducible rfl)
          change wpAnyH _ _ _ _ _ _ _ (Act.put _ (some 71) _) _
          simp only [Act.put, List.setIfInBounds_toArray, List.set_cons_zero, List.set_cons_succ]
          refine wpAnyH_take (i := 12) (v := ?vP12) rfl (by kernel_rfl) (by kernel_rfl) (by kernel_rfl) (fun _ _ _ h => h) (Or.inl ⟨by rfl, ?hP12⟩) (by assumption) ?rP12
          case hP12 => (intro w hSw; (try dsimp only at hSw); go_simp; try with_reducible rfl)
          change wpAnyH _ _ _ _ _ _ _ (Act.put _ (some 72) _) _
          simp only [Act.put, List.setIfInBounds_toArray, List.set_cons_zero, List.set_cons_succ]
          refine wpAnyH_take (i := 13) (v := ?vP13) rfl (by kernel_rfl) (by kernel_rfl) (by kernel_rfl) (fun _ _ _ h => h) (Or.inl ⟨by rfl, ?hP13⟩) (by assumption) ?rP13
          case hP13 => (intro w hSw; (try dsimp only at hSw); go_simp; try with_reducible rfl)
          change wpAnyH _ _ _ _ _ _ _ (Act.put _ (some 73) _) _
          simp only [Act.put, List.setIfInBounds_toArray, List.set_cons_zero, List.set_cons_succ]
          refine wpAnyH_take (i := 14) (v := ?vP14) rfl (by kernel_rfl) (by kernel_rfl) (by kernel_rfl) (fun _ _ _ h => h) (Or.inl ⟨by rfl, ?hP14⟩) (by assumption) ?rP14
          case hP14 => (intro w hSw; (try dsimp only at hSw); go_simp; try with_reducible rfl)
          change wpAnyH _ _ _ _ _ _ _ (Act.put _ (some 74) _) _
          simp only [Act.put, List.setIfInBounds_toArray, List.set_cons_zero, List.set_cons_succ]
          refine wpAnyH_ready (rs := [15]) (by kernel_rfl) (by simp) ?_
          refine AllReadyH.cons rfl (fun K hK => ?_) AllReadyH.nil
          go_simp
          refine (rsameH_any p1 e1 m1 t1 q1 ti1 ss1 B7 l1.length d7 l1 p1 e1 m1 t1 q1 ti1 ss1 A1 n1 c1 l1 _ (Us.drewN hz 1) (Us.drewN hl1 1)).mono ?_
          rintro e' wa ⟨rfl, hba⟩
          rw [decide_eq_true rfl]
          go_wp2_with fail
          have z1 := Bs.below (w := w8.drew) hx hba
          have z2 := Bs.below (w := w8.drew) hy hba
          have y1 : Box wa w.heap.size [.bool p1, .bool e1, .bool m1, .int .i64 t1, .int .u16 q1, .int .u32 ti1, .int .u32 ss1, .slice A1 n1 c1] := Box.call (w := w8.drew) k1 hba
          have y2 : Box wa (w.heap.size + 1) [.bool p2, .bool e2, .bool m2, .int .i64 t2, .int .u16 q2, .int .u32 ti2, .int .u32 ss2, .slice A2 n2 c2] := Box.call (w := w8.drew) k2 hba
          have y3 : Box wa w7.heap.size [.bool p1, .bool e1, .bool m1, .int .i64 t1, .int .u16 q1, .int .u32 ti1, .int .u32 ss1, .slice B7 l1.length d7] := Box.call (w := w8.drew) k3 hba
          have v1 := Us.below (w := w8.drew) hl1 hba
          have v2 := Us.below (w := w8.drew) hl2 hba
          refine hK.out _ _ ?_ (fun hHeld => ?_)
          · exact ⟨str_of z1, y1.eight.1, y2.eight.1, y3.eight.1⟩
          clear hK K
          try simp only [Act.put, List.setIfInBounds_toArray, List.set_cons_zero, List.set_cons_succ]
          refine wpAnyH_take (i := 16) (v := ?vP16) rfl (by kernel_rfl) (by kernel_rfl) (by kernel_rfl) (fun _ _ _ h => h) (Or.inl ⟨by rfl, ?hP16⟩) (by assumption) ?rP16
          case hP16 => (intro w hSw; (try dsimp only at hSw); go_simp; try with_reducible rfl)
          change wpAnyH _ _ _ _ _ _ _ (Act.put _ (some 76) _) _
          simp only [Act.put, List.setIfInBounds_toArray, List.set_cons_zero, List.set_cons_succ]
          refine wpAnyH_take (i := 17) (v := ?vP17) rfl (by kernel_rfl) (by kernel_rfl) (by kernel_rfl) (fun _ _ _ h => h) (Or.inl ⟨by rfl, ?hP17⟩) (by assumption) ?rP17
          case hP17 => (intro w hSw; (try dsimp only at hSw); go_simp; try with_reducible rfl)
          change wpAnyH _ _ _ _ _ _ _ (Act.put _ (some 77) _) _
          simp only [Act.put, List.setIfInBounds_toArray, List.set_cons_zero, List.set_cons_succ]
          refine wpAnyH_take (i := 18) (v := ?vP18) rfl (by kernel_rfl) (by kernel_rfl) (by kernel_rfl) (fun _ _ _ h => h) (Or.inl ⟨by rfl, ?hP18⟩) (by assumption) ?rP18
          case hP18 => (intro w hSw; (try dsimp only at hSw); go_simp; try with_reducible rfl)
          change wpAnyH _ _ _ _ _ _ _ (Act.put _ (some 78) _) _
          simp only [Act.put, List.setIfInBounds_toArray, List.set_cons_zero, List.set_cons_succ]
          refine wpAnyH_take (i := 19) (v := ?vP19) rfl (by kernel_rfl) (by kernel_rfl) (by kernel_rfl) (fun _ _ _ h => h) (Or.inl ⟨by rfl, ?hP19⟩) (by assumption) ?rP19
          case hP19 => (intro w hSw; (try dsimp only at hSw); go_simp; try with_reducible rfl)
          change wpAnyH _ _ _ _ _ _ _ (Act.put _ (some 79) _) _
          simp only [Act.put, List.setIfInBounds_toArray, List.set_cons_zero, List.set_cons_succ]
          refine wpAnyH_take (i := 20) (v := ?vP20) rfl (by kernel_rfl) (by kernel_rfl) (by kernel_rfl) (fun _ _ _ h => h) (Or.inl ⟨by rfl, ?hP20⟩) (by assumption) ?rP20
          case hP20 => (intro w hSw; (try dsimp only at hSw); go_simp; try with_reducible rfl)
          change wpAnyH _ _ _ _ _ _ _ (Act.put _ (some 80) _) _
          simp only [Act.put, List.setIfInBounds_toArray, List.set_cons_zero, List.set_cons_succ]
          refine wpAnyH_take (i := 21) (v := ?vP21) rfl (by kernel_rfl) (by kernel_rfl) (by kernel_rfl) (fun _ _ _ h => h) (Or.inl ⟨by rfl, ?hP21⟩) (by assumption) ?rP21
          case hP21 => (intro w hSw; (try dsimp only at hSw); go_simp; try with_reducible rfl)
          change wpAnyH _ _ _ _ _ _ _ (Act.put _ (some 81) _) _
          simp only [Act.put, List.setIfInBounds_toArray, List.set_cons_zero, List.set_cons_succ]
          refine wpAnyH_take (i := 22) (v := undef) rfl (by kernel_rfl) (by kernel_rfl) (by kernel_rfl) (fun _ _ _ h => h) (Or.inr ⟨by rfl, rfl⟩) (by assumption) ?_
          change wpAnyH _ _ _ _ _ _ _ (Act.put _ (some 82) _) _
          simp only [Act.put, List.setIfInBounds_toArray, List.set_cons_zero, List.set_cons_succ]
          refine wpAnyH_take (i := 23) (v := undef) rfl (by kernel_rfl) (by kernel_rfl) (by kernel_rfl) (fun _ _ _ h => h) (Or.inr ⟨by rfl, rfl⟩) (by assumption) ?_
          change wpAnyH _ _ _ _ _ _ _ (Act.put _ (some 83) _) _
          simp only [Act.put, List.setIfInBounds_toArray, List.set_cons_zero, List.set_cons_succ]
          refine wpAnyH_take (i := 24) (v := undef) rfl (by kernel_rfl) (by kernel_rfl) (by kernel_rfl) (fun _ _ _ h => h) (Or.inr ⟨by rfl, rfl⟩) (by assumption) ?_
          change wpAnyH _ _ _ _ _ _ _ (Act.put _ (some 84) _) _
          simp only [Act.put, List.setIfInBounds_toArray, List.set_cons_zero, List.set_cons_succ]
          refine wpAnyH_take (i := 25) (v := undef) rfl (by kernel_rfl) (by kernel_rfl) (by kernel_rfl) (fun _ _ _ h => h) (Or.inr ⟨by rfl, rfl⟩) (by assumption) ?_
          change wpAnyH _ _ _ _ _ _ _ (Act.put _ (some 85) _) _
          simp only [Act.put, List.setIfInBounds_toArray, List.set_cons_zero, List.set_cons_succ]
          refine wpAnyH_take (i := 26) (v := undef) rfl (by kernel_rfl) (by kernel_rfl) (by kernel_rfl) (fun _ _ _ h => h) (Or.inr ⟨by rfl, rfl⟩) (by assumption) ?_
          change wpAnyH _ _ _ _ _ _ _ (Act.put _ (some 86) _) _
          simp only [Act.put, List.setIfInBounds_toArray, List.set_cons_zero, List.set_cons_succ]
          refine wpAnyH_take (i := 27) (v := undef) rfl (by kernel_rfl) (by kernel_rfl) (by kernel_rfl) (fun _ _ _ h => h) (Or.inr ⟨by rfl, rfl⟩) (by assumption) ?_
          change wpAnyH _ _ _ _ _ _ _ (Act.put _ (some 87) _) _
          simp only [Act.put, List.setIfInBounds_toArray, List.set_cons_zero, List.set_cons_succ]
          refine wpAnyH_take (i := 28) (v := undef) rfl (by kernel_rfl) (by kernel_rfl) (by kernel_rfl) (fun _ _ _ h => h) (Or.inr ⟨by rfl, rfl⟩) (by assumption) ?_
          change wpAnyH _ _ _ _ _ _ _ (Act.put _ (some 88) _) _
          simp only [Act.put, List.setIfInBounds_toArray, List.set_cons_zero, List.set_cons_succ]
          refine wpAnyH_take (i := 29) (v := undef) rfl (by kernel_rfl) (by kernel_rfl) (by kernel_rfl) (fun _ _ _ h => h) (Or.inr ⟨by rfl, rfl⟩) (by assumption) ?_
          change wpAnyH _ _ _ _ _ _ _ (Act.put _ (some 89) _) _
          simp only [Act.put, List.setIfInBounds_toArray, List.set_cons_zero, List.set_cons_succ]
          refine wpAnyH_take (i := 30) (v := undef) rfl (by kernel_rfl) (by kernel_rfl) (by kernel_rfl) (fun _ _ _ h => h) (Or.inr ⟨by rfl, rfl⟩) (by assumption) ?_
          change wpAnyH _ _ _ _ _ _ _ (Act.put _ (some 90) _) _
          simp only [Act.put, List.setIfInBounds_toArray, List.set_cons_zero, List.set_cons_succ]
          refine wpAnyH_take (i := 31) (v := ?vP31) rfl (by kernel_rfl) (by kernel_rfl) (by kernel_rfl) (fun _ _ _ h => h) (Or.inl ⟨by rfl, ?hP31⟩) (by assumption) ?rP31
          case hP31 => (intro w hSw; (try dsimp only at hSw); go_simp; try with_reducible rfl)
          change wpAnyH _ _ _ _ _ _ _ (Act.put _ (some 91) _) _
          simp only [Act.put, List.setIfInBounds_toArray, List.set_cons_zero, List.set_cons_succ]
          refine wpAnyH_take (i := 32) (v := ?vP32) rfl (by kernel_rfl) (by kernel_rfl) (by kernel_rfl) (fun _ _ _ h => h) (Or.inl ⟨by rfl, ?hP32⟩) (by assumption) ?rP32
          case hP32 => (intro w hSw; (try dsimp only at hSw); go_simp; try with_reducible rfl)
          change wpAnyH _ _ _ _ _ _ _ (Act.put _ (some 92) _) _
          simp only [Act.put, List.setIfInBounds_toArray, List.set_cons_zero, List.set_cons_succ]
          refine wpAnyH_done (by kernel_rfl) ?_ _
          go_wp2_with fail
          go_meet
          exact ⟨rfl, (Below.refl _ w8).drew.trans hba⟩
        · obtain ⟨rfl, rfl⟩ := HW2.out.1 rfl
          obtain ⟨bq, hbq⟩ : ∃ b, decide ((⟨p1, e1, m1, t1, q1, ti1, ss1, l1⟩ : Hd) = ⟨p2, e2, m2, t2, q2, ti2, ss2, l2⟩) = b := ⟨_, rfl⟩
          have HB := Lib.hid hbq
          have heq : (X1 == X2) = bq := by
            rw [← hbq, Bool.eq_iff_iff, beq_iff_eq, decide_eq_true_eq]
            exact HX5.out rfl
          clear hbq
          have hd12 : decide ((X1.length : Int) < 12) = false := by rw [decide_eq_false_iff_not]; omega
          refine wp_region_held_drew (S := (fun W => ((convert 27 9 (.slice A3 X1.length c3)).run Try.prog W = .ok (.string ⟨X1.toArray⟩) W) ∧ ((convert 27 9 (.slice A4 X2.length c4)).run Try.prog W = .ok (.string ⟨X2.toArray⟩) W) ∧ (W.cell? ⟨w.heap.size, 0, none⟩ = some (.bool p1) ∧ W.cell? ⟨w.heap.size, 1, none⟩ = some (.bool e1) ∧ W.cell? ⟨w.heap.size, 2, none⟩ = some (.bool m1) ∧ W.cell? ⟨w.heap.size, 3, none⟩ = some (.int .i64 t1) ∧ W.cell? ⟨w.heap.size, 4, none⟩ = some (.int .u16 q1) ∧ W.cell? ⟨w.heap.size, 5, none⟩ = some (.int .u32 ti1) ∧ W.cell? ⟨w.heap.size, 6, none⟩ = some (.int .u32 ss1) ∧ W.cell? ⟨w.heap.size, 7, none⟩ = some (.slice A1 n1 c1)) ∧ (W.cell? ⟨(w.heap.size + 1), 0, none⟩ = some (.bool p2) ∧ W.cell? ⟨(w.heap.size + 1), 1, none⟩ = some (.bool e2) ∧ W.cell? ⟨(w.heap.size + 1), 2, none⟩ = some (.bool m2) ∧ W.cell? ⟨(w.heap.size + 1), 3, none⟩ = some (.int .i64 t2) ∧ W.cell? ⟨(w.heap.size + 1), 4, none⟩ = some (.int .u16 q2) ∧ W.cell? ⟨(w.heap.size + 1), 5, none⟩ = some (.int .u32 ti2) ∧ W.cell? ⟨(w.heap.size + 1), 6, none⟩ = some (.int .u32 ss2) ∧ W.cell? ⟨(w.heap.size + 1), 7, none⟩ = some (.slice A2 n2 c2)) ∧ (W.cell? ⟨w7.heap.size, 0, none⟩ = some (.bool p1) ∧ W.cell? ⟨w7.heap.size, 1, none⟩ = some (.bool e1) ∧ W.cell? ⟨w7.heap.size, 2, none⟩ = some (.bool m1) ∧ W.cell? ⟨w7.heap.size, 3, none⟩ = some (.int .i64 t1) ∧ W.cell? ⟨w7.heap.size, 4, none⟩ = some (.int .u16 q1) ∧ W.cell? ⟨w7.heap.size, 5, none⟩ = some (.int .u32 ti1) ∧ W.cell? ⟨w7.heap.size, 6, none⟩ = some (.int .u32 ss1) ∧ W.cell? ⟨w7.heap.size, 7, none⟩ = some (.slice B7 l1.length d7)))) (by kernel_rfl) ⟨str_of hx.drew, str_of hy.drew, fk1, fk2, fk3⟩ (fun hHeld => ?_)
          clear fk1 fk2 fk3
          refine wpAnyH_take (i := 0) (v := ?vQ0) rfl (by kernel_rfl) (by kernel_rfl) (by kernel_rfl) (fun _ _ _ h => h) (Or.inl ⟨by rfl, ?hQ0⟩) (by assumption) ?rQ0
          case hQ0 => (intro w hSw; (try dsimp only at hSw); go_simp; try with_reducible rfl)
          change wpAnyH _ _ _ _ _ _ _ (Act.put _ (some 60) _) _
          simp only [Act.put, List.setIfInBounds_toArray, List.set_cons_zero, List.set_cons_succ]
          refine wpAnyH_take (i := 1) (v := ?vQ1) rfl (by kernel_rfl) (by kernel_rfl) (by kernel_rfl) (fun _ _ _ h => h) (Or.inl ⟨by rfl, ?hQ1⟩) (by assumption) ?rQ1
          case hQ1 => (intro w hSw; (try dsimp only at hSw); go_simp; try with_reducible rfl)
          change wpAnyH _ _ _ _ _ _ _ (Act.put _ (some 61) _) _
          simp only [Act.put, List.setIfInBounds_toArray, List.set_cons_zero, List.set_cons_succ]
          refine wpAnyH_take (i := 2) (v := ?vQ2) rfl (by kernel_rfl) (by kernel_rfl) (by kernel_rfl) (fun _ _ _ h => h) (Or.inl ⟨by rfl, ?hQ2⟩) (by assumption) ?rQ2
          case hQ2 => (intro w hSw; (try dsimp only at hSw); go_simp; try with_reducible rfl)
          change wpAnyH _ _ _ _ _ _ _ (Act.put _ (some 62) _) _
          simp only [Act.put, List.setIfInBounds_toArray, List.set_cons_zero, List.set_cons_succ]
          refine wpAnyH_take (i := 3) (v := ?vQ3) rfl (by kernel_rfl) (by kernel_rfl) (by kernel_rfl) (fun _ _ _ h => h) (Or.inl ⟨by rfl, ?hQ3⟩) (by assumption) ?rQ3
          case hQ3 => (intro w hSw; (try dsimp only at hSw); go_simp; try with_reducible rfl)
          change wpAnyH _ _ _ _ _ _ _ (Act.put _ (some 63) _) _
          simp only [Act.put, List.setIfInBounds_toArray, List.set_cons_zero, List.set_cons_succ]
          refine wpAnyH_take (i := 4) (v := ?vQ4) rfl (by kernel_rfl) (by kernel_rfl) (by kernel_rfl) (fun _ _ _ h => h) (Or.inl ⟨by rfl, ?hQ4⟩) (by assumption) ?rQ4
          case hQ4 => (intro w hSw; (try dsimp only at hSw); go_simp; try with_reducible rfl)
          change wpAnyH _ _ _ _ _ _ _ (Act.put _ (some 64) _) _
          simp only [Act.put, List.setIfInBounds_toArray, List.set_cons_zero, List.set_cons_succ]
          refine wpAnyH_take (i := 5) (v := ?vQ5) rfl (by kernel_rfl) (by kernel_rfl) (by kernel_rfl) (fun _ _ _ h => h) (Or.inl ⟨by rfl, ?hQ5⟩) (by assumption) ?rQ5
          case hQ5 => (intro w hSw; (try dsimp only at hSw); go_simp; try with_reducible rfl)
          change wpAnyH _ _ _ _ _ _ _ (Act.put _ (some 65) _) _
          simp only [Act.put, List.setIfInBounds_toArray, List.set_cons_zero, List.set_cons_succ]
          refine wpAnyH_take (i := 6) (v := ?vQ6) rfl (by kernel_rfl) (by kernel_rfl) (by kernel_rfl) (fun _ _ _ h => h) (Or.inl ⟨by rfl, ?hQ6⟩) (by assumption) ?rQ6
          case hQ6 => (intro w hSw; (try dsimp only at hSw); go_simp; try with_reducible rfl)
          change wpAnyH _ _ _ _ _ _ _ (Act.put _ (some 66) _) _
          simp only [Act.put, List.setIfInBounds_toArray, List.set_cons_zero, List.set_cons_succ]
          refine wpAnyH_take (i := 7) (v := ?vQ7) rfl (by kernel_rfl) (by kernel_rfl) (by kernel_rfl) (fun _ _ _ h => h) (Or.inl ⟨by rfl, ?hQ7⟩) (by assumption) ?rQ7
          case hQ7 => (intro w hSw; (try dsimp only at hSw); go_simp; try with_reducible rfl)
          change wpAnyH _ _ _ _ _ _ _ (Act.put _ (some 67) _) _
          simp only [Act.put, List.setIfInBounds_toArray, List.set_cons_zero, List.set_cons_succ]
          refine wpAnyH_take (i := 8) (v := ?vQ8) rfl (by kernel_rfl) (by kernel_rfl) (by kernel_rfl) (fun _ _ _ h => h) (Or.inl ⟨by rfl, ?hQ8⟩) (by assumption) ?rQ8
          case hQ8 => (intro w hSw; (try dsimp only at hSw); go_simp; try with_reducible rfl)
          change wpAnyH _ _ _ _ _ _ _ (Act.put _ (some 68) _) _
          simp only [Act.put, List.setIfInBounds_toArray, List.set_cons_zero, List.set_cons_succ]
          refine wpAnyH_take (i := 9) (v := ?vQ9) rfl (by kernel_rfl) (by kernel_rfl) (by kernel_rfl) (fun _ _ _ h => h) (Or.inl ⟨by rfl, ?hQ9⟩) (by assumption) ?rQ9
          case hQ9 => (intro w hSw; (try dsimp only at hSw); go_simp; try with_reducible rfl)
          change wpAnyH _ _ _ _ _ _ _ (Act.put _ (some 69) _) _
          simp only [Act.put, List.setIfInBounds_toArray, List.set_cons_zero, List.set_cons_succ]
          refine wpAnyH_take (i := 10) (v := ?vQ10) rfl (by kernel_rfl) (by kernel_rfl) (by kernel_rfl) (fun _ _ _ h => h) (Or.inl ⟨by rfl, ?hQ10⟩) (by assumption) ?rQ10
          case hQ10 => (intro w hSw; (try dsimp only at hSw); go_simp; try with_reducible rfl)
          change wpAnyH _ _ _ _ _ _ _ (Act.put _ (some 70) _) _
          simp only [Act.put, List.setIfInBounds_toArray, List.set_cons_zero, List.set_cons_succ]
          refine wpAnyH_take (i := 11) (v := ?vQ11) rfl (by kernel_rfl) (by kernel_rfl) (by kernel_rfl) (fun _ _ _ h => h) (Or.inl ⟨by rfl, ?hQ11⟩) (by assumption) ?rQ11
          case hQ11 => (intro w hSw; (try dsimp only at hSw); go_simp; try with_reducible rfl)
          change wpAnyH _ _ _ _ _ _ _ (Act.put _ (some 71) _) _
          simp only [Act.put, List.setIfInBounds_toArray, List.set_cons_zero, List.set_cons_succ]
          refine wpAnyH_take (i := 12) (v := ?vQ12) rfl (by kernel_rfl) (by kernel_rfl) (by kernel_rfl) (fun _ _ _ h => h) (Or.inl ⟨by rfl, ?hQ12⟩) (by assumption) ?rQ12
          case hQ12 => (intro w hSw; (try dsimp only at hSw); go_simp; try with_reducible rfl)
          change wpAnyH _ _ _ _ _ _ _ (Act.put _ (some 72) _) _
          simp only [Act.put, List.setIfInBounds_toArray, List.set_cons_zero, List.set_cons_succ]
          refine wpAnyH_take (i := 13) (v := ?vQ13) rfl (by kernel_rfl) (by kernel_rfl) (by kernel_rfl) (fun _ _ _ h => h) (Or.inl ⟨by rfl, ?hQ13⟩) (by assumption) ?rQ13
          case hQ13 => (intro w hSw; (try dsimp only at hSw); go_simp; try with_reducible rfl)
          change wpAnyH _ _ _ _ _ _ _ (Act.put _ (some 73) _) _
          simp only [Act.put, List.setIfInBounds_toArray, List.set_cons_zero, List.set_cons_succ]
          refine wpAnyH_take (i := 14) (v := ?vQ14) rfl (by kernel_rfl) (by kernel_rfl) (by kernel_rfl) (fun _ _ _ h => h) (Or.inl ⟨by rfl, ?hQ14⟩) (by assumption) ?rQ14
          case hQ14 => (intro w hSw; (try dsimp only at hSw); go_simp; try with_reducible rfl)
          change wpAnyH _ _ _ _ _ _ _ (Act.put _ (some 74) _) _
          simp only [Act.put, List.setIfInBounds_toArray, List.set_cons_zero, List.set_cons_succ]
          refine wpAnyH_ready (rs := [15]) (by kernel_rfl) (by simp) ?_
          refine AllReadyH.cons rfl (fun K hK => ?_) AllReadyH.nil
          go_simp
          refine (rsameH_any p1 e1 m1 t1 q1 ti1 ss1 B7 l1.length d7 l1 p1 e1 m1 t1 q1 ti1 ss1 A1 n1 c1 l1 _ (Us.drewN hz 1) (Us.drewN hl1 1)).mono ?_
          rintro e' wa ⟨rfl, hba⟩
          rw [decide_eq_true rfl]
          go_wp2_with fail
          have z1 := Bs.below (w := w8.drew) hx hba
          have z2 := Bs.below (w := w8.drew) hy hba
          have y1 : Box wa w.heap.size [.bool p1, .bool e1, .bool m1, .int .i64 t1, .int .u16 q1, .int .u32 ti1, .int .u32 ss1, .slice A1 n1 c1] := Box.call (w := w8.drew) k1 hba
          have y2 : Box wa (w.heap.size + 1) [.bool p2, .bool e2, .bool m2, .int .i64 t2, .int .u16 q2, .int .u32 ti2, .int .u32 ss2, .slice A2 n2 c2] := Box.call (w := w8.drew) k2 hba
          have y3 : Box wa w7.heap.size [.bool p1, .bool e1, .bool m1, .int .i64 t1, .int .u16 q1, .int .u32 ti1, .int .u32 ss1, .slice B7 l1.length d7] := Box.call (w := w8.drew) k3 hba
          have v1 := Us.below (w := w8.drew) hl1 hba
          have v2 := Us.below (w := w8.drew) hl2 hba
          refine hK.out _ _ ?_ (fun hHeld => ?_)
          · exact ⟨str_of z1, str_of z2, y1.eight.1, y2.eight.1, y3.eight.1⟩
          clear hK K
          try simp only [Act.put, List.setIfInBounds_toArray, List.set_cons_zero, List.set_cons_succ]
          refine wpAnyH_take (i := 16) (v := ?vQ16) rfl (by kernel_rfl) (by kernel_rfl) (by kernel_rfl) (fun _ _ _ h => h) (Or.inl ⟨by rfl, ?hQ16⟩) (by assumption) ?rQ16
          case hQ16 => (intro w hSw; (try dsimp only at hSw); go_simp; try with_reducible rfl)
          change wpAnyH _ _ _ _ _ _ _ (Act.put _ (some 76) _) _
          simp only [Act.put, List.setIfInBounds_toArray, List.set_cons_zero, List.set_cons_succ]
          refine wpAnyH_take (i := 17) (v := ?vQ17) rfl (by kernel_rfl) (by kernel_rfl) (by kernel_rfl) (fun _ _ _ h => h) (Or.inl ⟨by rfl, ?hQ17⟩) (by assumption) ?rQ17
          case hQ17 => (intro w hSw; (try dsimp only at hSw); go_simp; try with_reducible rfl)
          change wpAnyH _ _ _ _ _ _ _ (Act.put _ (some 77) _) _
          simp only [Act.put, List.setIfInBounds_toArray, List.set_cons_zero, List.set_cons_succ]
          refine wpAnyH_take (i := 18) (v := ?vQ18) rfl (by kernel_rfl) (by kernel_rfl) (by kernel_rfl) (fun _ _ _ h => h) (Or.inl ⟨by rfl, ?hQ18⟩) (by assumption) ?rQ18
          case hQ18 => (intro w hSw; (try dsimp only at hSw); go_simp; try with_reducible rfl)
          change wpAnyH _ _ _ _ _ _ _ (Act.put _ (some 78) _) _
          simp only [Act.put, List.setIfInBounds_toArray, List.set_cons_zero, List.set_cons_succ]
          refine wpAnyH_take (i := 19) (v := ?vQ19) rfl (by kernel_rfl) (by kernel_rfl) (by kernel_rfl) (fun _ _ _ h => h) (Or.inl ⟨by rfl, ?hQ19⟩) (by assumption) ?rQ19
          case hQ19 => (intro w hSw; (try dsimp only at hSw); go_simp; try with_reducible rfl)
          change wpAnyH _ _ _ _ _ _ _ (Act.put _ (some 79) _) _
          simp only [Act.put, List.setIfInBounds_toArray, List.set_cons_zero, List.set_cons_succ]
          refine wpAnyH_take (i := 20) (v := ?vQ20) rfl (by kernel_rfl) (by kernel_rfl) (by kernel_rfl) (fun _ _ _ h => h) (Or.inl ⟨by rfl, ?hQ20⟩) (by assumption) ?rQ20
          case hQ20 => (intro w hSw; (try dsimp only at hSw); go_simp; try with_reducible rfl)
          change wpAnyH _ _ _ _ _ _ _ (Act.put _ (some 80) _) _
          simp only [Act.put, List.setIfInBounds_toArray, List.set_cons_zero, List.set_cons_succ]
          refine wpAnyH_take (i := 21) (v := ?vQ21) rfl (by kernel_rfl) (by kernel_rfl) (by kernel_rfl) (fun _ _ _ h => h) (Or.inl ⟨by rfl, ?hQ21⟩) (by assumption) ?rQ21
          case hQ21 => (intro w hSw; (try dsimp only at hSw); go_simp; try with_reducible rfl)
          change wpAnyH _ _ _ _ _ _ _ (Act.put _ (some 81) _) _
          simp only [Act.put, List.setIfInBounds_toArray, List.set_cons_zero, List.set_cons_succ]
          refine wpAnyH_take (i := 22) (v := ?vQ22) rfl (by kernel_rfl) (by kernel_rfl) (by kernel_rfl) (fun _ _ _ h => h) (Or.inl ⟨by rfl, ?hQ22⟩) (by assumption) ?rQ22
          case hQ22 => (intro w hSw; (try dsimp only at hSw); go_simp; try with_reducible rfl)
          change wpAnyH _ _ _ _ _ _ _ (Act.put _ (some 82) _) _
          simp only [Act.put, List.setIfInBounds_toArray, List.set_cons_zero, List.set_cons_succ]
          refine wpAnyH_take (i := 23) (v := ?vQ23) rfl (by kernel_rfl) (by kernel_rfl) (by kernel_rfl) (fun _ _ _ h => h) (Or.inl ⟨by rfl, ?hQ23⟩) (by assumption) ?rQ23
          case hQ23 => (intro w hSw; (try dsimp only at hSw); go_simp; try with_reducible rfl)
          change wpAnyH _ _ _ _ _ _ _ (Act.put _ (some 83) _) _
          simp only [Act.put, List.setIfInBounds_toArray, List.set_cons_zero, List.set_cons_succ]
          refine wpAnyH_take (i := 24) (v := ?vQ24) rfl (by kernel_rfl) (by kernel_rfl) (by kernel_rfl) (fun _ _ _ h => h) (Or.inl ⟨by rfl, ?hQ24⟩) (by assumption) ?rQ24
          case hQ24 => (intro w hSw; (try dsimp only at hSw); go_simp; try with_reducible rfl)
          change wpAnyH _ _ _ _ _ _ _ (Act.put _ (some 84) _) _
          simp only [Act.put, List.setIfInBounds_toArray, List.set_cons_zero, List.set_cons_succ]
          refine wpAnyH_take (i := 25) (v := ?vQ25) rfl (by kernel_rfl) (by kernel_rfl) (by kernel_rfl) (fun _ _ _ h => h) (Or.inl ⟨by rfl, ?hQ25⟩) (by assumption) ?rQ25
          case hQ25 => (intro w hSw; (try dsimp only at hSw); go_simp; try with_reducible rfl)
          change wpAnyH _ _ _ _ _ _ _ (Act.put _ (some 85) _) _
          simp only [Act.put, List.setIfInBounds_toArray, List.set_cons_zero, List.set_cons_succ]
          refine wpAnyH_take (i := 26) (v := ?vQ26) rfl (by kernel_rfl) (by kernel_rfl) (by kernel_rfl) (fun _ _ _ h => h) (Or.inl ⟨by rfl, ?hQ26⟩) (by assumption) ?rQ26
          case hQ26 => (intro w hSw; (try dsimp only at hSw); go_simp; try with_reducible rfl)
          change wpAnyH _ _ _ _ _ _ _ (Act.put _ (some 86) _) _
          simp only [Act.put, List.setIfInBounds_toArray, List.set_cons_zero, List.set_cons_succ]
          refine wpAnyH_take (i := 27) (v := ?vQ27) rfl (by kernel_rfl) (by kernel_rfl) (by kernel_rfl) (fun _ _ _ h => h) (Or.inl ⟨by rfl, ?hQ27⟩) (by assumption) ?rQ27
          case hQ27 => (intro w hSw; (try dsimp only at hSw); go_simp; try with_reducible rfl)
          change wpAnyH _ _ _ _ _ _ _ (Act.put _ (some 87) _) _
          simp only [Act.put, List.setIfInBounds_toArray, List.set_cons_zero, List.set_cons_succ]
          refine wpAnyH_take (i := 28) (v := ?vQ28) rfl (by kernel_rfl) (by kernel_rfl) (by kernel_rfl) (fun _ _ _ h => h) (Or.inl ⟨by rfl, ?hQ28⟩) (by assumption) ?rQ28
          case hQ28 => (intro w hSw; (try dsimp only at hSw); go_simp; try with_reducible rfl)
          change wpAnyH _ _ _ _ _ _ _ (Act.put _ (some 88) _) _
          simp only [Act.put, List.setIfInBounds_toArray, List.set_cons_zero, List.set_cons_succ]
          refine wpAnyH_ready (rs := [29]) (by kernel_rfl) (by simp) ?_
          refine AllReadyH.cons rfl (fun K hK => ?_) AllReadyH.nil
          go_simp
          refine (rsameH_any p1 e1 m1 t1 q1 ti1 ss1 A1 n1 c1 l1 p2 e2 m2 t2 q2 ti2 ss2 A2 n2 c2 l2 _ v1 v2).mono ?_
          rintro e' wb ⟨rfl, hbb⟩
          rw [HB.out]
          go_wp2_with fail
          replace z1 := z1.below hbb
          replace z2 := z2.below hbb
          replace y1 := y1.call hbb
          replace y2 := y2.call hbb
          replace y3 := y3.call hbb
          refine hK.out _ _ ?_ (fun hHeld => ?_)
          · exact ⟨str_of z1, str_of z2, y1.eight.1, y2.eight.1, y3.eight.1⟩
          clear hK K
          try simp only [Act.put, List.setIfInBounds_toArray, List.set_cons_zero, List.set_cons_succ]
          refine wpAnyH_take (i := 30) (v := ?vQ30) rfl (by kernel_rfl) (by kernel_rfl) (by kernel_rfl) (fun _ _ _ h => h) (Or.inl ⟨by rfl, ?hQ30⟩) (by assumption) ?rQ30
          case hQ30 => (intro w hSw; (try dsimp only at hSw); go_simp; try with_reducible rfl)
          change wpAnyH _ _ _ _ _ _ _ (Act.put _ (some 90) _) _
          simp only [Act.put, List.setIfInBounds_toArray, List.set_cons_zero, List.set_cons_succ]
          refine wpAnyH_take (i := 31) (v := ?vQ31) rfl (by kernel_rfl) (by kernel_rfl) (by kernel_rfl) (fun _ _ _ h => h) (Or.inl ⟨by rfl, ?hQ31⟩) (by assumption) ?rQ31
          case hQ31 => (intro w hSw; (try dsimp only at hSw); go_simp; try with_reducible rfl)
          change wpAnyH _ _ _ _ _ _ _ (Act.put _ (some 91) _) _
          simp only [Act.put, List.setIfInBounds_toArray, List.set_cons_zero, List.set_cons_succ]
          refine wpAnyH_take (i := 32) (v := ?vQ32) rfl (by kernel_rfl) (by kernel_rfl) (by kernel_rfl) (fun _ _ _ h => h) (Or.inl ⟨by rfl, ?hQ32⟩) (by assumption) ?rQ32
          case hQ32 => (intro w hSw; (try dsimp only at hSw); go_simp; try with_reducible rfl)
          change wpAnyH _ _ _ _ _ _ _ (Act.put _ (some 92) _) _
          simp only [Act.put, List.setIfInBounds_toArray, List.set_cons_zero, List.set_cons_succ]
          refine wpAnyH_done (by kernel_rfl) ?_ _
          go_wp2_with fail
          go_meet
          exact ⟨rfl, (Below.refl _ w8).drew.trans (hba.trans (hbb.mono hba.size))⟩
      case rest =>
        obtain ⟨rfl, hb⟩ := hcut
        replace hq := hq.trans (hb.mono hq.size)
        clear fk1 fk2 fk3
        replace hl1 := hl1.below hb
        replace hl2 := hl2.below hb
        replace hs := hs.below hb
        replace k1 := k1.call hb
        replace k2 := k2.call hb
        replace hx := hx.below hb
        replace hy := hy.below hb
        replace hz := hz.below hb
        replace k3 := k3.call hb
        replace hB := hB.trans (hb.mono hB.size)
        clear hb
        have fk1 := k1.eight.1
        have fk2 := k2.eight.1
        have fk3 := k3.eight.1
        obtain ⟨j, hj⟩ : ∃ j, j = cut % X1.length := ⟨_, rfl⟩
        have hjl : j < X1.length := by rw [hj]; exact Nat.mod_lt _ (by omega)
        have htm : (cut : Int).tmod (X1.length : Int) = (j : Int) := by rw [hj, Int.ofNat_tmod]
        clear hj
        have hx0 : ¬ (X1.length : Int) = 0 := by omega
        have hx0' : ((X1.length : Int) == 0) = false := by rw [beq_eq_false_iff_ne]; omega
        obtain ⟨A8, c8, hsl, hbs8⟩ := hx.slice_r Try.underlying27 byte_size (show j ≤ X1.length by omega)
        have hcutx := fun W => hsl W (j : Int) rfl
        clear hsl
        go_wp2_with fail
        refine (RD.out A8 j c8 (X1.take j) wc hbs8 (by omega)).mono ?_
        rintro e' w9 ⟨B9, d9, rfl, hz9, hb⟩
        have he2 := HX4.out j hjl
        rw [show readH (X1.take j) = zeroH from if_neg (by rw [he2]; decide)] at hz9 ⊢
        rw [show readN (X1.take j) = 0 from if_neg (by rw [he2]; decide), he2]
        dsimp only [hdV, zeroH, List.length_nil] at hz9 ⊢
        replace hq := hq.trans (hb.mono hq.size)
        clear hbs8 hcutx he2
        clear fk1 fk2 fk3
        replace hl1 := hl1.below hb
        replace hl2 := hl2.below hb
        replace hs := hs.below hb
        replace k1 := k1.call hb
        replace k2 := k2.call hb
        replace hx := hx.below hb
        replace hy := hy.below hb
        replace hz := hz.below hb
        replace k3 := k3.call hb
        replace hB := hB.trans (hb.mono hB.size)
        clear hb
        have fk1 := k1.eight.1
        have fk2 := k2.eight.1
        have fk3 := k3.eight.1
        obtain ⟨ff0, ff1, ff2, ff3, ff4, ff5, ff6, ff7⟩ := k3.free8
        have kz := k3.put8 (.bool false) (.bool false) (.bool false) (.int .i64 0) (.int .u16 0) (.int .u32 0) (.int .u32 0) (.slice B9 0 d9)
        have hqz := below_put8 hq (show w3.heap.size ≤ w7.heap.size by have := w7s; omega) (.bool false) (.bool false) (.bool false) (.int .i64 0) (.int .u16 0) (.int .u32 0) (.int .u32 0) (.slice B9 0 d9)
        have KZ := Lib.hid kz
        have HQZ := Lib.hid hqz
        clear kz hqz
        go_upto_region 12 with fail
        clear fk1 fk2 fk3 ff0 ff1 ff2 ff3 ff4 ff5 ff6 ff7
        change Code.wp _ _ _ _ (put8 w9 w7.heap.size (.bool false) (.bool false) (.bool false) (.int .i64 0) (.int .u16 0) (.int .u32 0) (.int .u32 0) (.slice B9 0 d9))
        obtain ⟨fk3, _⟩ := KZ.out.eight
        replace hq := HQZ.out
        clear KZ HQZ
        generalize put8 w9 w7.heap.size (.bool false) (.bool false) (.bool false) (.int .i64 0) (.int .u16 0) (.int .u32 0) (.int .u32 0) (.slice B9 0 d9) = wz at *
        go_wp2_with fail
        refine (rsameH_any false false false 0 0 0 0 B9 0 d9 [] false false false 0 0 0 0 none 0 0 [] _ hz9.empty (Us.nil _)).mono ?_
        rintro e' w10 ⟨rfl, hb⟩
        rw [decide_eq_true rfl]
        clear fk3
        go_wp2_with fail
        go_meet
        exact hq.trans (hb.mono hq.size)
  case rest =>
    have hb := hcut
    clear fk1 fk2
    replace hl1 := hl1.below hb
    replace hl2 := hl2.below hb
    replace hs := hs.below hb
    replace k1 := k1.call hb
    replace k2 := k2.call hb
    replace hx := hx.below hb
    replace hy := hy.below hb
    replace hB := hB.trans (hb.mono hB.size)
    clear hb
    have fk1 := k1.eight.1
    have fk2 := k2.eight.1
    have hec := hErr_cases s
    by_cases he : hErr s = 0
    · skip
      obtain ⟨s1, s2, s3, s4, s5⟩ := HS.out he
      clear HS hec
      obtain ⟨hd, hhd⟩ : ∃ hd, hd = readH s := ⟨_, rfl⟩
      obtain ⟨hn, hhn⟩ : ∃ hn, hn = readN s := ⟨_, rfl⟩
      rw [← hhd] at s1 s2 s3
      rw [← hhn] at s3 s4 s5
      go_wp2_with fail
      refine (RD.out B lb cb s wc hs (by omega)).mono ?_
      rintro e' w12 ⟨B12, d12, rfl, hz, hb⟩
      rw [← hhd] at hz ⊢
      rw [← hhn, he]
      obtain ⟨rp, re, rm, rt, rq, rti, rss, rl⟩ := hd
      dsimp only [hdV] at hz ⊢
      clear hhd hhn he
      have s1' := s1
      unfold rightH at s1'
      rw [decide_eq_true_eq] at s1'
      obtain ⟨q0, q1, q2⟩ := s1'
      simp only at q0 q1 q2
      clear fk1 fk2
      replace hl1 := hl1.below hb
      replace hl2 := hl2.below hb
      replace hs := hs.below hb
      replace k1 := k1.call hb
      replace k2 := k2.call hb
      replace hx := hx.below hb
      replace hy := hy.below hb
      replace hB := hB.trans (hb.mono hB.size)
      clear hb
      have fk1 := k1.eight.1
      have fk2 := k2.eight.1
      clear fk1 fk2
      have k4 := Box.new w12 [.bool rp, .bool re, .bool rm, .int .i64 rt, .int .u16 rq, .int .u32 rti, .int .u32 rss, .slice B12 rl.length d12] 26
      replace hl1 := hl1.alloc (.cells #[.bool rp, .bool re, .bool rm, .int .i64 rt, .int .u16 rq, .int .u32 rti, .int .u32 rss, .slice B12 rl.length d12] 26)
      replace hl2 := hl2.alloc (.cells #[.bool rp, .bool re, .bool rm, .int .i64 rt, .int .u16 rq, .int .u32 rti, .int .u32 rss, .slice B12 rl.length d12] 26)
      replace hs := hs.alloc (.cells #[.bool rp, .bool re, .bool rm, .int .i64 rt, .int .u16 rq, .int .u32 rti, .int .u32 rss, .slice B12 rl.length d12] 26)
      replace k1 := k1.alloc (.cells #[.bool rp, .bool re, .bool rm, .int .i64 rt, .int .u16 rq, .int .u32 rti, .int .u32 rss, .slice B12 rl.length d12] 26)
      replace k2 := k2.alloc (.cells #[.bool rp, .bool re, .bool rm, .int .i64 rt, .int .u16 rq, .int .u32 rti, .int .u32 rss, .slice B12 rl.length d12] 26)
      replace hx := hx.alloc (.cells #[.bool rp, .bool re, .bool rm, .int .i64 rt, .int .u16 rq, .int .u32 rti, .int .u32 rss, .slice B12 rl.length d12] 26)
      replace hy := hy.alloc (.cells #[.bool rp, .bool re, .bool rm, .int .i64 rt, .int .u16 rq, .int .u32 rti, .int .u32 rss, .slice B12 rl.length d12] 26)
      replace hz := hz.alloc (.cells #[.bool rp, .bool re, .bool rm, .int .i64 rt, .int .u16 rq, .int .u32 rti, .int .u32 rss, .slice B12 rl.length d12] 26)
      replace hB := hB.alloc hB.size (.cells #[.bool rp, .bool re, .bool rm, .int .i64 rt, .int .u16 rq, .int .u32 rti, .int .u32 rss, .slice B12 rl.length d12] 26)
      have fk1 := k1.eight.1
      have fk2 := k2.eight.1
      have fk4 := k4.eight.1
      go_wp2_with fail
      refine (WR.out rp re rm rt rq rti rss B12 rl.length d12 rl _ hz (by omega) s2 (wf_i64 (by omega) (by omega))).mono ?_
      rintro e w13 ⟨A13, c13, rfl, hv, hb⟩
      rw [show writeH ⟨rp, re, rm, rt, rq, rti, rss, rl⟩ = s.take hn from by unfold writeH; rw [if_pos s1, s3]] at hv ⊢
      rw [show writeE ⟨rp, re, rm, rt, rq, rti, rss, rl⟩ = 0 from if_pos s1]
      have hvl : (s.take hn).length = hn := by rw [List.length_take]; omega
      have HVL := Lib.hid hvl
      clear hvl s3
      clear fk1 fk2 fk4
      replace hl1 := hl1.below hb
      replace hl2 := hl2.below hb
      replace hs := hs.below hb
      replace k1 := k1.call hb
      replace k2 := k2.call hb
      replace hx := hx.below hb
      replace hy := hy.below hb
      replace hz := hz.below hb
      replace k4 := k4.call hb
      replace hB := hB.trans (hb.mono hB.size)
      clear hb
      have fk1 := k1.eight.1
      have fk2 := k2.eight.1
      have fk4 := k4.eight.1
      have H1 := Lib.hid (fun W hl => RI.out rp re rm rt rq rti rss B12 rl.length d12 rl W hl (by omega) s2 (wf_i64 (by omega) (by omega)))
      rw [s1] at H1
      rw [hslen] at s5
      obtain ⟨A14, c14, hsl, hbs14⟩ := hs.slice_r Try.underlying27 byte_size s5
      have hcutx := fun W => hsl W (hn : Int) rfl
      rw [HVL.out] at hv ⊢
      have g1 : decide ((12 : Int) ≤ (hn : Int)) = true := by rw [decide_eq_true_eq]; omega
      have g2 : decide ((hn : Int) ≤ (lb : Int)) = true := by rw [decide_eq_true_eq]; omega
      clear hsl q0 q1 q2 s4
      go_upto_region 18 with fail
      refine wp_region_held_drew (S := (fun W => ((convert 27 9 (.slice A13 hn c13)).run Try.prog W = .ok (.string ⟨(s.take hn).toArray⟩) W) ∧ ((convert 27 9 (.slice A14 hn c14)).run Try.prog W = .ok (.string ⟨(s.take hn).toArray⟩) W) ∧ (W.cell? ⟨w12.heap.size, 0, none⟩ = some (.bool rp) ∧ W.cell? ⟨w12.heap.size, 1, none⟩ = some (.bool re) ∧ W.cell? ⟨w12.heap.size, 2, none⟩ = some (.bool rm) ∧ W.cell? ⟨w12.heap.size, 3, none⟩ = some (.int .i64 rt) ∧ W.cell? ⟨w12.heap.size, 4, none⟩ = some (.int .u16 rq) ∧ W.cell? ⟨w12.heap.size, 5, none⟩ = some (.int .u32 rti) ∧ W.cell? ⟨w12.heap.size, 6, none⟩ = some (.int .u32 rss) ∧ W.cell? ⟨w12.heap.size, 7, none⟩ = some (.slice B12 rl.length d12)))) (by kernel_rfl) ⟨str_of hv.drew, str_of hbs14.drew, fk4⟩ (fun hHeld => ?_)
      clear fk1 fk2 fk4
      refine wpAnyH_take (i := 0) (v := ?vR0) rfl (by kernel_rfl) (by kernel_rfl) (by kernel_rfl) (fun _ _ _ h => h) (Or.inl ⟨by rfl, ?hR0⟩) (by assumption) ?rR0
      case hR0 => (intro w hSw; (try dsimp only at hSw); go_simp; try with_reducible rfl)
      change wpAnyH _ _ _ _ _ _ _ (Act.put _ (some 136) _) _
      simp only [Act.put, List.setIfInBounds_toArray, List.set_cons_zero, List.set_cons_succ]
      refine wpAnyH_take (i := 1) (v := ?vR1) rfl (by kernel_rfl) (by kernel_rfl) (by kernel_rfl) (fun _ _ _ h => h) (Or.inl ⟨by rfl, ?hR1⟩) (by assumption) ?rR1
      case hR1 => (intro w hSw; (try dsimp only at hSw); go_simp; try with_reducible rfl)
      change wpAnyH _ _ _ _ _ _ _ (Act.put _ (some 137) _) _
      simp only [Act.put, List.setIfInBounds_toArray, List.set_cons_zero, List.set_cons_succ]
      refine wpAnyH_take (i := 2) (v := ?vR2) rfl (by kernel_rfl) (by kernel_rfl) (by kernel_rfl) (fun _ _ _ h => h) (Or.inl ⟨by rfl, ?hR2⟩) (by assumption) ?rR2
      case hR2 => (intro w hSw; (try dsimp only at hSw); go_simp; try with_reducible rfl)
      change wpAnyH _ _ _ _ _ _ _ (Act.put _ (some 138) _) _
      simp only [Act.put, List.setIfInBounds_toArray, List.set_cons_zero, List.set_cons_succ]
      refine wpAnyH_take (i := 3) (v := ?vR3) rfl (by kernel_rfl) (by kernel_rfl) (by kernel_rfl) (fun _ _ _ h => h) (Or.inl ⟨by rfl, ?hR3⟩) (by assumption) ?rR3
      case hR3 => (intro w hSw; (try dsimp only at hSw); go_simp; try with_reducible rfl)
      change wpAnyH _ _ _ _ _ _ _ (Act.put _ (some 139) _) _
      simp only [Act.put, List.setIfInBounds_toArray, List.set_cons_zero, List.set_cons_succ]
      refine wpAnyH_ready (rs := [4]) (by kernel_rfl) (by simp) ?_
      refine AllReadyH.cons rfl (fun K hK => ?_) AllReadyH.nil
      go_simp
      refine (H1.out _ (Us.drewN hz 1)).mono ?_
      rintro e' wa ⟨rfl, hba⟩
      go_wp2_with fail
      have z1 := Bs.below (w := w13.drew) hv hba
      have z2 := Bs.below (w := w13.drew) hbs14 hba
      have y4 : Box wa w12.heap.size [.bool rp, .bool re, .bool rm, .int .i64 rt, .int .u16 rq, .int .u32 rti, .int .u32 rss, .slice B12 rl.length d12] := Box.call (w := w13.drew) k4 hba
      refine hK.out _ _ ?_ (fun hHeld => ?_)
      · exact ⟨str_of z1, str_of z2, y4.eight.1⟩
      clear hK K
      try simp only [Act.put, List.setIfInBounds_toArray, List.set_cons_zero, List.set_cons_succ]
      refine wpAnyH_take (i := 5) (v := ?vR5) rfl (by kernel_rfl) (by kernel_rfl) (by kernel_rfl) (fun _ _ _ h => h) (Or.inl ⟨by rfl, ?hR5⟩) (by assumption) ?rR5
      case hR5 => (intro w hSw; (try dsimp only at hSw); go_simp; try with_reducible rfl)
      change wpAnyH _ _ _ _ _ _ _ (Act.put _ (some 141) _) _
      simp only [Act.put, List.setIfInBounds_toArray, List.set_cons_zero, List.set_cons_succ]
      refine wpAnyH_take (i := 6) (v := ?vR6) rfl (by kernel_rfl) (by kernel_rfl) (by kernel_rfl) (fun _ _ _ h => h) (Or.inl ⟨by rfl, ?hR6⟩) (by assumption) ?rR6
      case hR6 => (intro w hSw; (try dsimp only at hSw); go_simp; try with_reducible rfl)
      change wpAnyH _ _ _ _ _ _ _ (Act.put _ (some 142) _) _
      simp only [Act.put, List.setIfInBounds_toArray, List.set_cons_zero, List.set_cons_succ]
      refine wpAnyH_take (i := 7) (v := ?vR7) rfl (by kernel_rfl) (by kernel_rfl) (by kernel_rfl) (fun _ _ _ h => h) (Or.inl ⟨by rfl, ?hR7⟩) (by assumption) ?rR7
      case hR7 => (intro w hSw; (try dsimp only at hSw); go_simp; try with_reducible rfl)
      change wpAnyH _ _ _ _ _ _ _ (Act.put _ (some 143) _) _
      simp only [Act.put, List.setIfInBounds_toArray, List.set_cons_zero, List.set_cons_succ]
      refine wpAnyH_take (i := 8) (v := ?vR8) rfl (by kernel_rfl) (by kernel_rfl) (by kernel_rfl) (fun _ _ _ h => h) (Or.inl ⟨by rfl, ?hR8⟩) (by assumption) ?rR8
      case hR8 => (intro w hSw; (try dsimp only at hSw); go_simp; try with_reducible rfl)
      change wpAnyH _ _ _ _ _ _ _ (Act.put _ (some 144) _) _
      simp only [Act.put, List.setIfInBounds_toArray, List.set_cons_zero, List.set_cons_succ]
      refine wpAnyH_take (i := 9) (v := ?vR9) rfl (by kernel_rfl) (by kernel_rfl) (by kernel_rfl) (fun _ _ _ h => h) (Or.inl ⟨by rfl, ?hR9⟩) (by assumption) ?rR9
      case hR9 => (intro w hSw; (try dsimp only at hSw); go_simp; try with_reducible rfl)
      change wpAnyH _ _ _ _ _ _ _ (Act.put _ (some 145) _) _
      simp only [Act.put, List.setIfInBounds_toArray, List.set_cons_zero, List.set_cons_succ]
      refine wpAnyH_take (i := 10) (v := ?vR10) rfl (by kernel_rfl) (by kernel_rfl) (by kernel_rfl) (fun _ _ _ h => h) (Or.inl ⟨by rfl, ?hR10⟩) (by assumption) ?rR10
      case hR10 => (intro w hSw; (try dsimp only at hSw); go_simp; try with_reducible rfl)
      change wpAnyH _ _ _ _ _ _ _ (Act.put _ (some 146) _) _
      simp only [Act.put, List.setIfInBounds_toArray, List.set_cons_zero, List.set_cons_succ]
      refine wpAnyH_take (i := 11) (v := ?vR11) rfl (by kernel_rfl) (by kernel_rfl) (by kernel_rfl) (fun _ _ _ h => h) (Or.inl ⟨by rfl, ?hR11⟩) (by assumption) ?rR11
      case hR11 => (intro w hSw; (try dsimp only at hSw); go_simp; try with_reducible rfl)
      change wpAnyH _ _ _ _ _ _ _ (Act.put _ (some 147) _) _
      simp only [Act.put, List.setIfInBounds_toArray, List.set_cons_zero, List.set_cons_succ]
      refine wpAnyH_take (i := 12) (v := ?vR12) rfl (by kernel_rfl) (by kernel_rfl) (by kernel_rfl) (fun _ _ _ h => h) (Or.inl ⟨by rfl, ?hR12⟩) (by assumption) ?rR12
      case hR12 => (intro w hSw; (try dsimp only at hSw); go_simp; try with_reducible rfl)
      change wpAnyH _ _ _ _ _ _ _ (Act.put _ (some 148) _) _
      simp only [Act.put, List.setIfInBounds_toArray, List.set_cons_zero, List.set_cons_succ]
      refine wpAnyH_take (i := 13) (v := ?vR13) rfl (by kernel_rfl) (by kernel_rfl) (by kernel_rfl) (fun _ _ _ h => h) (Or.inl ⟨by rfl, ?hR13⟩) (by assumption) ?rR13
      case hR13 => (intro w hSw; (try dsimp only at hSw); go_simp; try with_reducible rfl)
      change wpAnyH _ _ _ _ _ _ _ (Act.put _ (some 149) _) _
      simp only [Act.put, List.setIfInBounds_toArray, List.set_cons_zero, List.set_cons_succ]
      refine wpAnyH_take (i := 14) (v := ?vR14) rfl (by kernel_rfl) (by kernel_rfl) (by kernel_rfl) (fun _ _ _ h => h) (Or.inl ⟨by rfl, ?hR14⟩) (by assumption) ?rR14
      case hR14 => (intro w hSw; (try dsimp only at hSw); go_simp; try with_reducible rfl)
      change wpAnyH _ _ _ _ _ _ _ (Act.put _ (some 150) _) _
      simp only [Act.put, List.setIfInBounds_toArray, List.set_cons_zero, List.set_cons_succ]
      refine wpAnyH_take (i := 15) (v := ?vR15) rfl (by kernel_rfl) (by kernel_rfl) (by kernel_rfl) (fun _ _ _ h => h) (Or.inl ⟨by rfl, ?hR15⟩) (by assumption) ?rR15
      case hR15 => (intro w hSw; (try dsimp only at hSw); go_simp; try with_reducible rfl)
      change wpAnyH _ _ _ _ _ _ _ (Act.put _ (some 151) _) _
      simp only [Act.put, List.setIfInBounds_toArray, List.set_cons_zero, List.set_cons_succ]
      refine wpAnyH_take (i := 16) (v := ?vR16) rfl (by kernel_rfl) (by kernel_rfl) (by kernel_rfl) (fun _ _ _ h => h) (Or.inl ⟨by rfl, ?hR16⟩) (by assumption) ?rR16
      case hR16 => (intro w hSw; (try dsimp only at hSw); go_simp; try with_reducible rfl)
      change wpAnyH _ _ _ _ _ _ _ (Act.put _ (some 152) _) _
      simp only [Act.put, List.setIfInBounds_toArray, List.set_cons_zero, List.set_cons_succ]
      refine wpAnyH_take (i := 17) (v := ?vR17) rfl (by kernel_rfl) (by kernel_rfl) (by kernel_rfl) (fun _ _ _ h => h) (Or.inl ⟨by rfl, ?hR17⟩) (by assumption) ?rR17
      case hR17 => (intro w hSw; (try dsimp only at hSw); go_simp; try with_reducible rfl)
      change wpAnyH _ _ _ _ _ _ _ (Act.put _ (some 153) _) _
      simp only [Act.put, List.setIfInBounds_toArray, List.set_cons_zero, List.set_cons_succ]
      refine wpAnyH_take (i := 18) (v := ?vR18) rfl (by kernel_rfl) (by kernel_rfl) (by kernel_rfl) (fun _ _ _ h => h) (Or.inl ⟨by rfl, ?hR18⟩) (by assumption) ?rR18
      case hR18 => (intro w hSw; (try dsimp only at hSw); go_simp; try with_reducible rfl)
      change wpAnyH _ _ _ _ _ _ _ (Act.put _ (some 154) _) _
      simp only [Act.put, List.setIfInBounds_toArray, List.set_cons_zero, List.set_cons_succ]
      refine wpAnyH_take (i := 19) (v := ?vR19) rfl (by kernel_rfl) (by kernel_rfl) (by kernel_rfl) (fun _ _ _ h => h) (Or.inl ⟨by rfl, ?hR19⟩) (by assumption) ?rR19
      case hR19 => (intro w hSw; (try dsimp only at hSw); go_simp; try with_reducible rfl)
      change wpAnyH _ _ _ _ _ _ _ (Act.put _ (some 155) _) _
      simp only [Act.put, List.setIfInBounds_toArray, List.set_cons_zero, List.set_cons_succ]
      refine wpAnyH_take (i := 20) (v := ?vR20) rfl (by kernel_rfl) (by kernel_rfl) (by kernel_rfl) (fun _ _ _ h => h) (Or.inl ⟨by rfl, ?hR20⟩) (by assumption) ?rR20
      case hR20 => (intro w hSw; (try dsimp only at hSw); go_simp; try with_reducible rfl)
      change wpAnyH _ _ _ _ _ _ _ (Act.put _ (some 156) _) _
      simp only [Act.put, List.setIfInBounds_toArray, List.set_cons_zero, List.set_cons_succ]
      refine wpAnyH_take (i := 21) (v := ?vR21) rfl (by kernel_rfl) (by kernel_rfl) (by kernel_rfl) (fun _ _ _ h => h) (Or.inl ⟨by rfl, ?hR21⟩) (by assumption) ?rR21
      case hR21 => (intro w hSw; (try dsimp only at hSw); go_simp; try with_reducible rfl)
      change wpAnyH _ _ _ _ _ _ _ (Act.put _ (some 157) _) _
      simp only [Act.put, List.setIfInBounds_toArray, List.set_cons_zero, List.set_cons_succ]
      refine wpAnyH_take (i := 22) (v := ?vR22) rfl (by kernel_rfl) (by kernel_rfl) (by kernel_rfl) (fun _ _ _ h => h) (Or.inl ⟨by rfl, ?hR22⟩) (by assumption) ?rR22
      case hR22 => (intro w hSw; (try dsimp only at hSw); go_simp; try with_reducible rfl)
      change wpAnyH _ _ _ _ _ _ _ (Act.put _ (some 158) _) _
      simp only [Act.put, List.setIfInBounds_toArray, List.set_cons_zero, List.set_cons_succ]
      refine wpAnyH_take (i := 23) (v := ?vR23) rfl (by kernel_rfl) (by kernel_rfl) (by kernel_rfl) (fun _ _ _ h => h) (Or.inl ⟨by rfl, ?hR23⟩) (by assumption) ?rR23
      case hR23 => (intro w hSw; (try dsimp only at hSw); go_simp; try with_reducible rfl)
      change wpAnyH _ _ _ _ _ _ _ (Act.put _ (some 159) _) _
      simp only [Act.put, List.setIfInBounds_toArray, List.set_cons_zero, List.set_cons_succ]
      refine wpAnyH_take (i := 24) (v := ?vR24) rfl (by kernel_rfl) (by kernel_rfl) (by kernel_rfl) (fun _ _ _ h => h) (Or.inl ⟨by rfl, ?hR24⟩) (by assumption) ?rR24
      case hR24 => (intro w hSw; (try dsimp only at hSw); go_simp; try with_reducible rfl)
      change wpAnyH _ _ _ _ _ _ _ (Act.put _ (some 160) _) _
      simp only [Act.put, List.setIfInBounds_toArray, List.set_cons_zero, List.set_cons_succ]
      refine wpAnyH_take (i := 25) (v := ?vR25) rfl (by kernel_rfl) (by kernel_rfl) (by kernel_rfl) (fun _ _ _ h => h) (Or.inl ⟨by rfl, ?hR25⟩) (by assumption) ?rR25
      case hR25 => (intro w hSw; (try dsimp only at hSw); go_simp; try with_reducible rfl)
      change wpAnyH _ _ _ _ _ _ _ (Act.put _ (some 8) _) _
      simp only [Act.put, List.setIfInBounds_toArray, List.set_cons_zero, List.set_cons_succ]
      refine wpAnyH_done (by kernel_rfl) ?_ _
      go_wp2_with fail
      go_ret
      exact ⟨rfl, hB.trans (((Below.refl _ w13).drew.trans hba).mono hB.size)⟩
    · skip
      have hne : ((hErr s : Int) != 0) = true := by rw [bne_iff_ne]; omega
      have hzh : readH s = zeroH := if_neg he
      have hzn : readN s = 0 := if_neg he
      clear HS
      go_wp2_with fail
      refine (RD.out B lb cb s wc hs (by omega)).mono ?_
      rintro e' w12 ⟨B12, d12, rfl, hz, hb⟩
      rw [hzh] at hz ⊢
      rw [hzn]
      dsimp only [hdV, zeroH, List.length_nil] at hz ⊢
      clear hzh hzn he
      clear fk1 fk2
      replace hl1 := hl1.below hb
      replace hl2 := hl2.below hb
      replace hs := hs.below hb
      replace k1 := k1.call hb
      replace k2 := k2.call hb
      replace hx := hx.below hb
      replace hy := hy.below hb
      replace hB := hB.trans (hb.mono hB.size)
      clear hb
      have fk1 := k1.eight.1
      have fk2 := k2.eight.1
      clear fk1 fk2
      have k4 := Box.new w12 [.bool false, .bool false, .bool false, .int .i64 0, .int .u16 0, .int .u32 0, .int .u32 0, .slice B12 0 d12] 26
      replace hl1 := hl1.alloc (.cells #[.bool false, .bool false, .bool false, .int .i64 0, .int .u16 0, .int .u32 0, .int .u32 0, .slice B12 0 d12] 26)
      replace hl2 := hl2.alloc (.cells #[.bool false, .bool false, .bool false, .int .i64 0, .int .u16 0, .int .u32 0, .int .u32 0, .slice B12 0 d12] 26)
      replace hs := hs.alloc (.cells #[.bool false, .bool false, .bool false, .int .i64 0, .int .u16 0, .int .u32 0, .int .u32 0, .slice B12 0 d12] 26)
      replace k1 := k1.alloc (.cells #[.bool false, .bool false, .bool false, .int .i64 0, .int .u16 0, .int .u32 0, .int .u32 0, .slice B12 0 d12] 26)
      replace k2 := k2.alloc (.cells #[.bool false, .bool false, .bool false, .int .i64 0, .int .u16 0, .int .u32 0, .int .u32 0, .slice B12 0 d12] 26)
      replace hx := hx.alloc (.cells #[.bool false, .bool false, .bool false, .int .i64 0, .int .u16 0, .int .u32 0, .int .u32 0, .slice B12 0 d12] 26)
      replace hy := hy.alloc (.cells #[.bool false, .bool false, .bool false, .int .i64 0, .int .u16 0, .int .u32 0, .int .u32 0, .slice B12 0 d12] 26)
      replace hz := hz.alloc (.cells #[.bool false, .bool false, .bool false, .int .i64 0, .int .u16 0, .int .u32 0, .int .u32 0, .slice B12 0 d12] 26)
      replace hB := hB.alloc hB.size (.cells #[.bool false, .bool false, .bool false, .int .i64 0, .int .u16 0, .int .u32 0, .int .u32 0, .slice B12 0 d12] 26)
      have fk1 := k1.eight.1
      have fk2 := k2.eight.1
      have fk4 := k4.eight.1
      go_wp2_with fail
      refine (rsameH_any false false false 0 0 0 0 B12 0 d12 [] false false false 0 0 0 0 none 0 0 [] _ hz (Us.nil _)).mono ?_
      rintro e w13 ⟨rfl, hb⟩
      rw [decide_eq_true rfl]
      clear fk1 fk2 fk4
      replace hl1 := hl1.below hb
      replace hl2 := hl2.below hb
      replace hs := hs.below hb
      replace k1 := k1.call hb
      replace k2 := k2.call hb
      replace hx := hx.below hb
      replace hy := hy.below hb
      replace hz := hz.below hb
      replace k4 := k4.call hb
      replace hB := hB.trans (hb.mono hB.size)
      clear hb
      have fk1 := k1.eight.1
      have fk2 := k2.eight.1
      have fk4 := k4.eight.1
      go_wp2_with fail
      go_ret
      exact ⟨rfl, hB⟩

theorem headBack_all (K : HeadCalls) (p1 e1 m1 : Bool) (t1 : Int) (q1 ti1 ss1 : Nat) (A1 : Option Addr) (n1 c1 : Nat) (l1 : List Nat) (p2 e2 m2 : Bool) (t2 : Int) (q2 ti2 ss2 : Nat) (A2 : Option Addr) (n2 c2 : Nat) (l2 : List Nat) (B : Option Addr) (lb cb : Nat) (s : List UInt8) (cut : Nat) (w : World) (hl1 : Us w A1 n1 c1 l1) (hl2 : Us w A2 n2 c2 l2) (hs : Bs w B lb cb s) (hf1 : fitsH ⟨p1, e1, m1, t1, q1, ti1, ss1, l1⟩) (ht1 : (Lit.int .i64 t1).wf = true) (hf2 : fitsH ⟨p2, e2, m2, t2, q2, ti2, ss2, l2⟩) (ht2 : (Lit.int .i64 t2).wf = true) (hcut : cut < 256) :
    Calls Try.prog 4 #[.agg #[.bool p1, .bool e1, .bool m1, .int .i64 t1, .int .u16 q1, .int .u32 ti1, .int .u32 ss1, .slice A1 n1 c1], .agg #[.bool p2, .bool e2, .bool m2, .int .i64 t2, .int .u16 q2, .int .u32 ti2, .int .u32 ss2, .slice A2 n2 c2], .slice B lb cb, .int .u8 cut] w fun e w' => e = .returned (.bool true) ∧ Below w.heap.size w w' := by
  by_cases h : 3000 < lb ∨ 99 < n1 ∨ 99 < n2
  · exact headBack_big K p1 e1 m1 t1 q1 ti1 ss1 A1 n1 c1 p2 e2 m2 t2 q2 ti2 ss2 A2 n2 c2 B lb cb cut w (Nat.le_trans (Sl.le hl1) (Sl.cap hl1)) (Nat.le_trans (Sl.le hl2) (Sl.cap hl2)) (Nat.le_trans hs.le hs.cap) h
  · exact headBack_main K p1 e1 m1 t1 q1 ti1 ss1 A1 n1 c1 l1 p2 e2 m2 t2 q2 ti2 ss2 A2 n2 c2 l2 B lb cb s cut w hl1 hl2 hs hf1 ht1 hf2 ht2 (by omega) (by omega) (by omega) hcut

end Go.Proofs.Ytjbpjmjieomoiaa

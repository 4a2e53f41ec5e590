/-
  What the functions of package elem come to: Right, walkerFor, Profile.
-/
import Derived.Test.YtpkbikimpjmkgaaElemG
namespace Go.Proofs.Ytpkbikimpjmkgaa
open Go.RowKit
set_option linter.unusedVariables false
set_option linter.unusedSimpArgs false

theorem mapIB_zero (w : World) : (zeroValue 4).run Try.prog w = .ok (.bool false) w := by kernel_rfl
abbrev MapB (w : World) (b : Nat) (xs : List Int) : Prop := MapI Try.prog 3 4 w b xs
theorem MapB.look {w : World} {b : Nat} {xs : List Int} (h : MapB w b xs) {x : Int} (hx : (Lit.int .i64 x).wf = true) :
    (Instr.lookup 58 (.map (some b)) (.int .i64 x) false).run Try.prog w = .ok (.bool (xs.contains x)) w := MapI.look h Try.underlying3 Try.underlying4 Try.underlying58 (mapIB_zero w) hx
theorem ids_contains (l : List El) (x : Int) : (l.map El.id).contains x = !(l.all (fun e => e.id != x)) := by
  rw [Bool.eq_iff_iff]
  simp only [List.contains_iff_mem, List.mem_map, Bool.not_eq_true', List.all_eq_false, bne_iff_ne, ne_eq, Decidable.not_not]

set_option maxHeartbeats 4000000 in
theorem elright_any (A : Option Addr) (n c : Nat) (l : List El) (w : World) (hl : Els w A n c l) (hn : n ≤ 1000000) :
    Calls Try.prog 17 #[.slice A n c] w (Says w (.bool (rightL l))) := by
  have hln := hl.len
  obtain ⟨hb1, hb2⟩ := hl.bounds
  obtain ⟨z, hz⟩ : ∃ z, rightL l = z := ⟨_, rfl⟩
  rw [hz]
  have HZ := Lib.hid hz
  have HN := Lib.hid (fun k (h : rightL (l.take k) = false) => (hz.symm.trans (rightL_not h) : z = false))
  clear hz
  have hmm := @run_makeMap Try.prog
  go_enter Try.func17, Try.ntmps17
  go_wp2_with fail
  go_loopw [9] (fun i W => ∃ k : Nat, k ≤ n ∧ i = .int .i64 k ∧ Hid (rightL (l.take k) = true) ∧ MapB W w.heap.size ((l.take k).map El.id) ∧ Below w.heap.size w W) (fun i _ => n - (intOf i).toNat)
  case atStart => exact ⟨0, Nat.zero_le _, rfl, Lib.hid rfl, MapI.made _ _ _ _, below1 _ _⟩
  case round =>
    obtain ⟨k, hk, rfl, hr, hmap, hB⟩ := hrel
    by_cases hkn : k < n
    · obtain ⟨b, o, rfl, hlt, hc⟩ := (hl.below hB).at_ (by omega)
      obtain ⟨Ai, ni, ci, q0, q1, hbs⟩ := hc k (by omega)
      have hs := Lib.hid (rightL_succ (l := l) (k := k) (by omega))
      have htk := Lib.hid (List.take_succ_eq_append_getElem (l := l) (i := k) (by omega))
      have hkn2 : (k : Int) < n := by omega
      have hnl := Lib.hid hbs.len
      have hni := hbs.le
      have hci := hbs.cap
      unfold maxLen at hci
      have hidc := Lib.hid (ids_contains (l.take k))
      have hmapl : ((l.take k).map El.id).length ≤ 1000000 := by rw [List.length_map, List.length_take]; omega
      generalize l[k]'(by omega) = e at *
      obtain ⟨id, data⟩ := e
      (try simp only at q0 q1 hnl hs htk)
      clear hbs hc
      have kb := Box.new wr [.int .i64 id, .slice Ai ni ci] 49
      obtain ⟨z0, z1, _⟩ := kb.two
      by_cases hok : 1 ≤ id ∧ id ≤ 255 ∧ ni ≤ 255
      · obtain ⟨k1, k2, k3⟩ := hok
        have hoke : Hid (okEl ⟨id, data⟩ = true) := Lib.hid (by rw [okEl_iff]; exact ⟨k1, k2, by simp only; rw [hnl.out]; exact k3⟩)
        have g1 : decide (id < 1) = false := decide_eq_false (by omega)
        have g2 : decide (255 < id) = false := decide_eq_false (by omega)
        have g3 : decide (255 < ni) = false := decide_eq_false (by omega)
        have hwf : (Lit.int .i64 id).wf = true := WalkArith.wf_i64 (by omega)
        have hlk := fun o => MapB.look (hmap.alloc o) hwf
        cases hcn : ((l.take k).map El.id).contains id
        · rw [hcn] at hlk
          have hr2 : Hid (rightL (l.take (k + 1)) = true) := Lib.hid (by
            rw [hs.out, hr.out, hoke.out, Bool.true_and, Bool.true_and]
            rw [hidc.out] at hcn
            simpa using hcn)
          replace hcn := Lib.hid hcn
          clear hidc
          have hm2 := hmap.alloc (.cells #[.int .i64 id, .slice Ai ni ci] 49)
          go_wp2_with (at_mapUpdate; refine wpList_mapI rfl _ _ _ 58 rfl 3 4 Try.underlying3 Try.underlying4 Try.underlying58 w.heap.size _ rfl hm2 (by unfold maxLen; omega) id rfl hwf rfl ?_; intro w1 hmap1 hgrow1)
          refine ⟨⟨k + 1, by omega, by go_num, hr2, by rw [htk.out, List.map_append]; exact hmap1, ?_⟩, by simp [intOf]; omega⟩
          exact (hB.alloc hB.size (.cells #[.int .i64 id, .slice Ai ni ci] 49)).grown hgrow1 (by simp; have := hB.size; omega) (fun q hq => by cases hq; exact Nat.le_refl _)
        · rw [hcn] at hlk
          have hzf : Hid (z = false) := Lib.hid (HN.out (k + 1) (by
            rw [hs.out]
            rw [hidc.out] at hcn
            simp only [Bool.not_eq_true'] at hcn
            rw [hcn]
            simp))
          clear hidc hcn
          go_wp2_with fail
          go_ret
          exact ⟨by rw [hzf.out]; rfl, hB.alloc hB.size _⟩
      · have hzf : Hid (z = false) := Lib.hid (HN.out (k + 1) (by
          have : okEl ⟨id, data⟩ = false := by
            cases hq : okEl ⟨id, data⟩
            · rfl
            · rw [okEl_iff] at hq
              simp only at hq
              rw [hnl.out] at hq
              exact absurd hq hok
          rw [hs.out, this]; simp))
        rcases (show id < 1 ∨ (1 ≤ id ∧ 255 < id) ∨ (1 ≤ id ∧ id ≤ 255 ∧ 255 < ni) by omega) with h | ⟨h, h2⟩ | ⟨h, h2, h3⟩
        · have g1 : decide (id < 1) = true := decide_eq_true h
          clear hok
          go_wp2_with fail
          go_ret
          exact ⟨by rw [hzf.out]; rfl, hB.alloc hB.size _⟩
        · have g1 : decide (id < 1) = false := decide_eq_false (by omega)
          have g2 : decide (255 < id) = true := decide_eq_true h2
          clear hok
          go_wp2_with fail
          go_ret
          exact ⟨by rw [hzf.out]; rfl, hB.alloc hB.size _⟩
        · have g1 : decide (id < 1) = false := decide_eq_false (by omega)
          have g2 : decide (255 < id) = false := decide_eq_false (by omega)
          have g3 : decide (255 < ni) = true := decide_eq_true h3
          clear hok
          go_wp2_with fail
          go_ret
          exact ⟨by rw [hzf.out]; rfl, hB.alloc hB.size _⟩
    · obtain rfl : k = n := by omega
      have hkn2 : ¬ (k : Int) < k := by omega
      have hzt : Hid (z = true) := Lib.hid (by have := hr.out; rw [List.take_of_length_le (by omega)] at this; exact HZ.out.symm.trans this)
      go_wp2_with fail
      go_ret
      exact ⟨by rw [hzt.out]; rfl, hB⟩

abbrev walkV (nw : Bool) : Value := if nw = true then narrowW else wideW
set_option maxHeartbeats 2000000 in
theorem walkerFor_any (A : Option Addr) (n c : Nat) (l : List El) (w : World) (hl : Els w A n c l) :
    Calls Try.prog 21 #[.slice A n c] w (Says w (walkV (narrowL l))) := by
  have hln := hl.len
  obtain ⟨hb1, hb2⟩ := hl.bounds
  obtain ⟨z, hz⟩ : ∃ z, walkV (narrowL l) = z := ⟨_, rfl⟩
  rw [hz]
  have HN := Lib.hid (fun k (h : narrowL (l.take k) = false) => (by rw [← hz, narrowL_not h]; rfl : z = wideW))
  have HZ := Lib.hid hz
  clear hz
  go_enter Try.func21, Try.ntmps21
  go_wp2_with fail
  go_loopw [7] (fun i W => ∃ k : Nat, k ≤ n ∧ i = .int .i64 k ∧ Hid (narrowL (l.take k) = true) ∧ Below w.heap.size w W) (fun i _ => n - (intOf i).toNat)
  case atStart => exact ⟨0, Nat.zero_le _, rfl, Lib.hid rfl, Below.refl _ _⟩
  case round =>
    obtain ⟨k, hk, rfl, hr, hB⟩ := hrel
    by_cases hkn : k < n
    · obtain ⟨b, o, rfl, hlt, hc⟩ := (hl.below hB).at_ (by omega)
      obtain ⟨Ai, ni, ci, q0, q1, hbs⟩ := hc k (by omega)
      have hs := Lib.hid (narrowL_succ (l := l) (k := k) (by omega))
      have hkn2 : (k : Int) < n := by omega
      have hnl := Lib.hid hbs.len
      have hni := hbs.le
      have hci := hbs.cap
      unfold maxLen at hci
      clear hbs hc
      generalize l[k]'(by omega) = e at *
      obtain ⟨id, data⟩ := e
      (try simp only at q0 q1 hnl hs)
      have kb := Box.new wr [.int .i64 id, .slice Ai ni ci] 49
      obtain ⟨z0, z1, _⟩ := kb.two
      by_cases hok : id ≤ 14 ∧ 1 ≤ ni ∧ ni ≤ 16
      · obtain ⟨k1, k2, k3⟩ := hok
        have hr2 : Hid (narrowL (l.take (k + 1)) = true) := Lib.hid (by
          rw [hs.out, hr.out, Bool.true_and, narrowE_iff]
          simp only
          rw [hnl.out]
          exact ⟨k1, k2, k3⟩)
        have g1 : decide (14 < id) = false := decide_eq_false (by omega)
        have g2 : decide (ni < 1) = false := decide_eq_false (by omega)
        have g3 : decide (16 < ni) = false := decide_eq_false (by omega)
        go_wp2_with fail
        go_roundw
        case rel => exact ⟨k + 1, by omega, by go_num, hr2, hB.alloc hB.size _⟩
        case measure => simp [intOf]; omega
      · have hzf : Hid (z = wideW) := Lib.hid (HN.out (k + 1) (by
          have : narrowE ⟨id, data⟩ = false := by
            cases hq : narrowE ⟨id, data⟩
            · rfl
            · rw [narrowE_iff] at hq
              simp only at hq
              rw [hnl.out] at hq
              exact absurd hq hok
          rw [hs.out, this]; simp))
        rcases (show 14 < id ∨ (id ≤ 14 ∧ ni < 1) ∨ (id ≤ 14 ∧ 1 ≤ ni ∧ 16 < ni) by omega) with h | ⟨h, h2⟩ | ⟨h, h2, h3⟩
        · have g1 : decide (14 < id) = true := decide_eq_true h
          clear hok
          go_wp2_with fail
          go_ret
          exact ⟨by rw [hzf.out]; rfl, hB.alloc hB.size _⟩
        · have g1 : decide (14 < id) = false := decide_eq_false (by omega)
          have g2 : decide (ni < 1) = true := decide_eq_true h2
          clear hok
          go_wp2_with fail
          go_ret
          exact ⟨by rw [hzf.out]; rfl, hB.alloc hB.size _⟩
        · have g1 : decide (14 < id) = false := decide_eq_false (by omega)
          have g2 : decide (ni < 1) = false := decide_eq_false (by omega)
          have g3 : decide (16 < ni) = true := decide_eq_true h3
          clear hok
          go_wp2_with fail
          go_ret
          exact ⟨by rw [hzf.out]; rfl, hB.alloc hB.size _⟩
    · obtain rfl : k = n := by omega
      have hkn2 : ¬ (k : Int) < k := by omega
      have hzt : Hid (z = narrowW) := Lib.hid (by have := hr.out; rw [List.take_of_length_le (by omega)] at this; rw [← HZ.out, this]; rfl)
      go_wp2_with fail
      go_ret
      exact ⟨by rw [hzt.out]; rfl, hB⟩

end Go.Proofs.Ytpkbikimpjmkgaa

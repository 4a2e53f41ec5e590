/-
  What the document's own answers for layer 8 come to: Right, Profile, Short, Same.
-/
import Derived.Test.YtpkbikimpjmkgaaElemE
import Derived.Test.YtpkbikimpjmkgaaBase
import Derived.BigQuiet
import Derived.Deep.QuietTactic
namespace Go.Proofs.Ytpkbikimpjmkgaa
open Go.RowKit
set_option linter.unusedVariables false
set_option linter.unusedSimpArgs false

set_option maxHeartbeats 2000000 in
theorem rrightL_any (A : Option Addr) (n c : Nat) (l : List El) (w : World) (hl : Els w A n c l) :
    Calls Try.prog 9 #[.slice A n c] w (Says w (.bool (rightL l))) := by
  have hln := hl.len
  obtain ⟨hb1, hb2⟩ := hl.bounds
  obtain ⟨z, hz⟩ : ∃ z, rightL l = z := ⟨_, rfl⟩
  rw [hz]
  have HZ := Lib.hid hz
  have HN := Lib.hid (fun k (h : rightL (l.take k) = false) => (hz.symm.trans (rightL_not h) : z = false))
  clear hz
  go_enter Try.func9, Try.ntmps9
  go_wp2_with fail
  go_loopw [3] (fun i W => ∃ k : Nat, k ≤ n ∧ i = .int .i64 k ∧ Hid (rightL (l.take k) = true) ∧ Els W A n c l ∧ Below w.heap.size w W) (fun i _ => n - (intOf i).toNat)
  case atStart => exact ⟨0, Nat.zero_le _, rfl, Lib.hid rfl, hl, Below.refl _ _⟩
  case round =>
    clear hl
    obtain ⟨k, hk, rfl, hr, hl, hB⟩ := hrel
    by_cases hkn : k < n
    · obtain ⟨b, o, rfl, hlt, hc⟩ := hl.at_ (by omega)
      obtain ⟨Ai, ni, ci, q0, q1, hbs⟩ := hc k (by omega)
      have hs := Lib.hid (rightL_succ (l := l) (k := k) (by omega))
      have hkn2 : (k : Int) < n := by omega
      have hnl := Lib.hid hbs.len
      have hni := hbs.le
      have hci := hbs.cap
      unfold maxLen at hci
      obtain ⟨e, hLk⟩ : ∃ e, l[k]'(by omega) = e := ⟨_, rfl⟩
      rw [hLk] at q0 hnl hs
      replace hLk := Lib.hid hLk
      obtain ⟨id, data⟩ := e
      (try simp only at q0 hnl hs)
      by_cases hok : 1 ≤ id ∧ id ≤ 255 ∧ ni ≤ 255
      · obtain ⟨k1, k2, k3⟩ := hok
        have hoke : Hid (okEl ⟨id, data⟩ = true) := Lib.hid (by rw [okEl_iff]; exact ⟨k1, k2, by simp only; rw [hnl.out]; exact k3⟩)
        have g1 : decide (id < 1) = false := decide_eq_false (by omega)
        have g2 : decide (255 < id) = false := decide_eq_false (by omega)
        have g3 : decide (255 < ni) = false := decide_eq_false (by omega)
        go_wp2_with fail
        clear q0 q1 hbs hc
        go_loopw [4] (fun i W => ∃ j : Nat, j ≤ k ∧ i = .int .i64 j ∧ Hid ((l.take j).all (fun x => x.id != id) = true) ∧ Els W (some ⟨b, o, none⟩) n c l ∧ Below w.heap.size w W) (fun i _ => k - (intOf i).toNat)
        case atStart => exact ⟨0, Nat.zero_le _, rfl, Lib.hid rfl, hl, hB⟩
        case round =>
          clear hl hB
          obtain ⟨j, hj, rfl, hall, hl, hB⟩ := hrel
          by_cases hjk : j < k
          · obtain ⟨b2, o2, hA2, hlt2, hc⟩ := hl.at_ (by omega)
            injection hA2 with hA3
            injection hA3 with e1 e2
            subst e1 e2
            obtain ⟨_, _, _, p0, _, _⟩ := hc j (by omega)
            obtain ⟨_, _, _, q0, _, _⟩ := hc k (by omega)
            have hid : (l[k]'(by omega)).id = id := by rw [hLk.out]
            rw [hid] at q0
            have htk := Lib.hid (List.take_succ_eq_append_getElem (l := l) (i := j) (by omega))
            have hjm : Hid (l[j]'(by omega) ∈ l.take k) := Lib.hid (by rw [List.mem_take_iff_getElem]; exact ⟨j, by omega, rfl⟩)
            have hjk2 : (j : Int) < k := by omega
            clear hc hid
            generalize l[j]'(by omega) = y at *
            obtain ⟨yid, ydata⟩ := y
            (try simp only at p0)
            by_cases hy : yid = id
            · subst hy
              have hzf : Hid (z = false) := Lib.hid (HN.out (k + 1) (by
                rw [hs.out, hr.out, hoke.out, Bool.true_and, Bool.true_and, List.all_eq_false]
                exact ⟨_, hjm.out, by simp⟩))
              go_wp2_with fail
              go_quiet (fail)
              go_wp2_with fail
              go_ret
              exact ⟨by rw [hzf.out]; rfl, below_drewN hB _⟩
            · have hne : (yid == id) = false := by rw [beq_eq_false_iff_ne]; exact hy
              have hall2 : Hid ((l.take (j + 1)).all (fun x => x.id != id) = true) := Lib.hid (by
                rw [htk.out, List.all_append, hall.out]; simp [hy])
              clear hall htk hjm
              go_wp2_with fail
              go_quiet (fail)
              go_wp2_with fail
              go_roundw
              case rel => exact ⟨j + 1, by omega, by go_num, hall2, hl.drewN _, below_drewN hB _⟩
              case measure => simp [intOf]; omega
          · obtain rfl : j = k := by omega
            have hjk2 : ¬ (j : Int) < j := by omega
            have hr2 : Hid (rightL (l.take (j + 1)) = true) := Lib.hid (by rw [hs.out, hr.out, hoke.out, Bool.true_and, Bool.true_and]; exact hall.out)
            go_wp2_with fail
            go_roundw
            case rel => exact ⟨j + 1, by omega, by go_num, hr2, hl, hB⟩
            case measure => simp [intOf]; omega
      · have hzf : Hid (z = false) := Lib.hid (HN.out (k + 1) (by
          have : okEl ⟨id, data⟩ = false := by
            cases hq : okEl ⟨id, data⟩
            · rfl
            · rw [okEl_iff] at hq
              simp only at hq
              rw [hnl.out] at hq
              exact absurd hq hok
          rw [hs.out, this]; simp))
        rcases (show id < 1 ∨ (1 ≤ id ∧ 255 < id) ∨ (1 ≤ id ∧ id ≤ 255 ∧ 255 < ni) by omega) with h | ⟨h, h2⟩ | ⟨h, h2, h3⟩
        · have g1 : decide (id < 1) = true := decide_eq_true h
          clear hok
          go_wp2_with fail
          go_ret
          exact ⟨by rw [hzf.out]; rfl, hB⟩
        · have g1 : decide (id < 1) = false := decide_eq_false (by omega)
          have g2 : decide (255 < id) = true := decide_eq_true h2
          clear hok
          go_wp2_with fail
          go_ret
          exact ⟨by rw [hzf.out]; rfl, hB⟩
        · have g1 : decide (id < 1) = false := decide_eq_false (by omega)
          have g2 : decide (255 < id) = false := decide_eq_false (by omega)
          have g3 : decide (255 < ni) = true := decide_eq_true h3
          clear hok
          go_wp2_with fail
          go_ret
          exact ⟨by rw [hzf.out]; rfl, hB⟩
    · obtain rfl : k = n := by omega
      have hkn2 : ¬ (k : Int) < k := by omega
      have hzt : Hid (z = true) := Lib.hid (by have := hr.out; rw [List.take_of_length_le (by omega)] at this; exact HZ.out.symm.trans this)
      go_wp2_with fail
      go_ret
      exact ⟨by rw [hzt.out]; rfl, hB⟩

set_option maxHeartbeats 2000000 in
theorem rprofL_any (A : Option Addr) (n c : Nat) (l : List El) (w : World) (hl : Els w A n c l) :
    Calls Try.prog 10 #[.slice A n c] w (Says w (.int .u16 (profL l))) := by
  have hln := hl.len
  obtain ⟨hb1, hb2⟩ := hl.bounds
  have HR := Lib.hid (fun W hl => rrightL_any A n c l W hl)
  obtain ⟨z, hz⟩ : ∃ z, profL l = z := ⟨_, rfl⟩
  rw [hz]
  cases hr : rightL l
  · rw [hr] at HR
    have hz0 : z = 0 := by rw [← hz]; unfold profL; rw [hr]; simp
    subst hz0
    clear hz hr
    go_enter Try.func10, Try.ntmps10
    go_wp2_with fail
    refine (HR.out _ hl).mono ?_
    rintro x w2 ⟨rfl, hB⟩
    go_wp2_with fail
    go_ret
    exact ⟨rfl, hB⟩
  · rw [hr] at HR
    have hz1 : z = if narrowL l = true then 48862 else 4096 := by rw [← hz]; unfold profL; rw [if_pos hr]
    have HN := Lib.hid (fun k (h : narrowL (l.take k) = false) => (by rw [hz1, narrowL_not h]; simp : z = 4096))
    have HZ := Lib.hid hz1
    clear hz hr hz1
    go_enter Try.func10, Try.ntmps10
    go_wp2_with fail
    refine (HR.out _ hl).mono ?_
    rintro x w2 ⟨rfl, hB⟩
    replace hl := hl.below hB
    go_wp2_with fail
    go_loopw [3] (fun i W => ∃ k : Nat, k ≤ n ∧ i = .int .i64 k ∧ Hid (narrowL (l.take k) = true) ∧ Els W A n c l ∧ Below w.heap.size w W) (fun i _ => n - (intOf i).toNat)
    case atStart => exact ⟨0, Nat.zero_le _, rfl, Lib.hid rfl, hl, hB⟩
    case round =>
      clear hl hB
      obtain ⟨k, hk, rfl, hr, hl, hB⟩ := hrel
      by_cases hkn : k < n
      · obtain ⟨b, o, rfl, hlt, hc⟩ := hl.at_ (by omega)
        obtain ⟨Ai, ni, ci, q0, q1, hbs⟩ := hc k (by omega)
        have hs := Lib.hid (narrowL_succ (l := l) (k := k) (by omega))
        have hkn2 : (k : Int) < n := by omega
        have hnl := Lib.hid hbs.len
        have hni := hbs.le
        have hci := hbs.cap
        unfold maxLen at hci
        clear hbs hc
        generalize l[k]'(by omega) = e at *
        obtain ⟨id, data⟩ := e
        (try simp only at q0 hnl hs)
        by_cases hok : id ≤ 14 ∧ 1 ≤ ni ∧ ni ≤ 16
        · obtain ⟨k1, k2, k3⟩ := hok
          have hr2 : Hid (narrowL (l.take (k + 1)) = true) := Lib.hid (by
            rw [hs.out, hr.out, Bool.true_and, narrowE_iff]
            simp only
            rw [hnl.out]
            exact ⟨k1, k2, k3⟩)
          have g1 : decide (14 < id) = false := decide_eq_false (by omega)
          have g2 : ((ni : Int) == 0) = false := by rw [beq_eq_false_iff_ne]; omega
          have g2b : (ni == 0) = false := by rw [beq_eq_false_iff_ne]; omega
          have g3 : decide (16 < ni) = false := decide_eq_false (by omega)
          go_wp2_with fail
          go_roundw
          case rel => exact ⟨k + 1, by omega, by go_num, hr2, hl, hB⟩
          case measure => simp [intOf]; omega
        · have hzf : Hid (z = 4096) := Lib.hid (HN.out (k + 1) (by
            have : narrowE ⟨id, data⟩ = false := by
              cases hq : narrowE ⟨id, data⟩
              · rfl
              · rw [narrowE_iff] at hq
                simp only at hq
                rw [hnl.out] at hq
                exact absurd hq hok
            rw [hs.out, this]; simp))
          rcases (show 14 < id ∨ (id ≤ 14 ∧ ni = 0) ∨ (id ≤ 14 ∧ 1 ≤ ni ∧ 16 < ni) by omega) with h | ⟨h, h2⟩ | ⟨h, h2, h3⟩
          · have g1 : decide (14 < id) = true := decide_eq_true h
            clear hok
            go_wp2_with fail
            go_ret
            exact ⟨by rw [hzf.out]; rfl, hB⟩
          · have g1 : decide (14 < id) = false := decide_eq_false (by omega)
            subst h2
            clear hok
            go_wp2_with fail
            go_ret
            exact ⟨by rw [hzf.out]; rfl, hB⟩
          · have g1 : decide (14 < id) = false := decide_eq_false (by omega)
            have g2 : ((ni : Int) == 0) = false := by rw [beq_eq_false_iff_ne]; omega
            have g2b : (ni == 0) = false := by rw [beq_eq_false_iff_ne]; omega
            have g3 : decide (16 < ni) = true := decide_eq_true h3
            clear hok
            go_wp2_with fail
            go_ret
            exact ⟨by rw [hzf.out]; rfl, hB⟩
      · obtain rfl : k = n := by omega
        have hkn2 : ¬ (k : Int) < k := by omega
        have hzt : Hid (z = 48862) := Lib.hid (by have := hr.out; rw [List.take_of_length_le (by omega)] at this; rw [HZ.out, if_pos this])
        go_wp2_with fail
        go_ret
        exact ⟨by rw [hzt.out]; rfl, hB⟩

set_option maxHeartbeats 2000000 in
theorem rshortL_any (A : Option Addr) (n c : Nat) (l : List El) (w : World) (hl : Els w A n c l) :
    Calls Try.prog 7 #[.slice A n c] w (Says w (.bool (shortL l))) := by
  have hln := hl.len
  obtain ⟨hb1, hb2⟩ := hl.bounds
  obtain ⟨z, hz⟩ : ∃ z, shortL l = z := ⟨_, rfl⟩
  rw [hz]
  unfold shortL at hz
  have HZ := Lib.hid hz
  clear hz
  go_enter Try.func7, Try.ntmps7
  go_wp2_with fail
  go_loopw [3] (fun i W => ∃ k : Nat, k ≤ n ∧ i = .int .i64 k ∧ Hid ((l.take k).all (fun e => decide (e.data.length ≤ 400)) = true) ∧ Els W A n c l ∧ Below w.heap.size w W) (fun i _ => n - (intOf i).toNat)
  case atStart => exact ⟨0, Nat.zero_le _, rfl, Lib.hid rfl, hl, Below.refl _ _⟩
  case round =>
    clear hl
    obtain ⟨k, hk, rfl, hr, hl, hB⟩ := hrel
    by_cases hkn : k < n
    · obtain ⟨b, o, rfl, hlt, hc⟩ := hl.at_ (by omega)
      obtain ⟨Ai, ni, ci, q0, q1, hbs⟩ := hc k (by omega)
      have hs := Lib.hid (List.take_succ_eq_append_getElem (l := l) (i := k) (by omega))
      have hmem : Hid (l[k]'(by omega) ∈ l) := Lib.hid (List.getElem_mem _)
      have hkn2 : (k : Int) < n := by omega
      have hnl := Lib.hid hbs.len
      have hni := hbs.le
      have hci := hbs.cap
      unfold maxLen at hci
      clear hbs hc
      generalize l[k]'(by omega) = e at *
      obtain ⟨id, data⟩ := e
      (try simp only at q0 hnl hs)
      by_cases hok : ni ≤ 400
      · have hr2 : Hid ((l.take (k + 1)).all (fun e => decide (e.data.length ≤ 400)) = true) := Lib.hid (by
          rw [hs.out, List.all_append, hr.out]
          simp only [List.all_cons, List.all_nil, Bool.true_and, Bool.and_true, decide_eq_true_eq]
          rw [hnl.out]; exact hok)
        have g3 : decide (400 < ni) = false := decide_eq_false (by omega)
        go_wp2_with fail
        go_roundw
        case rel => exact ⟨k + 1, by omega, by go_num, hr2, hl, hB⟩
        case measure => simp [intOf]; omega
      · have hzf : Hid (z = false) := Lib.hid (by
          rw [← HZ.out, Bool.and_eq_false_iff]
          left
          rw [List.all_eq_false]
          exact ⟨_, hmem.out, by simp only [decide_eq_true_eq]; rw [hnl.out]; exact hok⟩)
        have g3 : decide (400 < ni) = true := decide_eq_true (by omega)
        go_wp2_with fail
        go_ret
        exact ⟨by rw [hzf.out]; rfl, hB⟩
    · obtain rfl : k = n := by omega
      have hkn2 : ¬ (k : Int) < k := by omega
      have hzt : Hid (z = decide (k ≤ 300)) := Lib.hid (by
        have := hr.out
        rw [List.take_of_length_le (by omega)] at this
        rw [← HZ.out, this, Bool.true_and, hln])
      go_wp2_with fail
      go_ret
      exact ⟨by rw [hzt.out]; simp; omega, hB⟩

set_option maxHeartbeats 4000000 in
theorem rsameL_any (A : Option Addr) (n c : Nat) (a : List El) (B : Option Addr) (m d : Nat) (b : List El) (w : World) (ha : Els w A n c a) (hb : Els w B m d b) :
    Calls Try.prog 16 #[.slice A n c, .slice B m d] w (Says w (.bool (decide (a = b)))) := by
  have ha1 := ha.len
  have hb1 := hb.len
  obtain ⟨p1, p2⟩ := ha.bounds
  obtain ⟨q1, q2⟩ := hb.bounds
  obtain ⟨z, hz⟩ : ∃ z, decide (a = b) = z := ⟨_, rfl⟩
  rw [hz]
  by_cases hnm : n = m
  · subst hnm
    go_enter Try.func16, Try.ntmps16
    go_wp2_with fail
    go_loopw [5] (fun i W => ∃ k : Nat, k ≤ n ∧ i = .int .i64 k ∧ Hid (a.take k = b.take k) ∧ Els W A n c a ∧ Els W B n d b ∧ Below w.heap.size w W) (fun i _ => n - (intOf i).toNat)
    case atStart => exact ⟨0, Nat.zero_le _, rfl, Lib.hid (by simp), ha, hb, Below.refl _ _⟩
    case round =>
      clear ha hb
      obtain ⟨k, hk, rfl, htk, ha, hb, hB⟩ := hrel
      by_cases hkn : k < n
      · obtain ⟨g1, o1, rfl, hlt1, hc1⟩ := ha.at_ (by omega)
        obtain ⟨g2, o2, rfl, hlt2, hc2⟩ := hb.at_ (by omega)
        obtain ⟨A1, n1, c1, x0, x1, hx⟩ := hc1 k (by omega)
        obtain ⟨A2, n2, c2, y0, y1, hy⟩ := hc2 k (by omega)
        have ht1 := Lib.hid (List.take_succ_eq_append_getElem (l := a) (i := k) (by omega))
        have ht2 := Lib.hid (List.take_succ_eq_append_getElem (l := b) (i := k) (by omega))
        have Z : Hid (a = b → a[k]'(by omega) = b[k]'(by omega)) := Lib.hid (fun e => by subst e; rfl)
        have hkn2 : (k : Int) < n := by omega
        clear hc1 hc2
        generalize a[k]'(by omega) = x at *
        generalize b[k]'(by omega) = y at *
        obtain ⟨i1, s1⟩ := x
        obtain ⟨i2, s2⟩ := y
        simp only at x0 y0 hx hy
        have t1 := fun j => str_of (hx.drewN j)
        have t2 := fun j => str_of (hy.drewN j)
        by_cases hid : i1 = i2
        · subst hid
          by_cases hss : s1 = s2
          · subst hss
            have h2 : Hid (a.take (k + 1) = b.take (k + 1)) := Lib.hid (by rw [ht1.out, ht2.out, htk.out])
            clear Z htk ht1 ht2
            go_wp2_with fail
            go_quiet (fail)
            go_wp2_with fail
            go_roundw
            case rel => exact ⟨k + 1, by omega, by go_num, h2, ha.drewN _, hb.drewN _, below_drewN hB _⟩
            case measure => simp [intOf]; omega
          · have hz2 : Hid (z = false) := Lib.hid (by rw [← hz]; exact decide_eq_false (fun e => by have := Z.out e; simp at this; exact hss this))
            have hne : (s1 == s2) = false := by rw [beq_eq_false_iff_ne]; exact hss
            clear hss Z htk ht1 ht2
            go_wp2_with fail
            go_quiet (fail)
            go_wp2_with fail
            go_ret
            exact ⟨by rw [hz2.out]; rfl, below_drewN hB _⟩
        · have hz2 : Hid (z = false) := Lib.hid (by rw [← hz]; exact decide_eq_false (fun e => by have := Z.out e; simp at this; exact hid this.1))
          have hne : (i1 == i2) = false := by rw [beq_eq_false_iff_ne]; exact hid
          have hne2 : (i1 != i2) = true := by rw [bne_iff_ne]; exact hid
          clear hid Z htk ht1 ht2
          go_wp2_with fail
          go_quiet (fail)
          go_wp2_with fail
          go_ret
          exact ⟨by rw [hz2.out]; rfl, below_drewN hB _⟩
      · obtain rfl : k = n := by omega
        have hab : a = b := by have := htk.out; rwa [List.take_of_length_le (by omega), List.take_of_length_le (by omega)] at this
        have hr : Hid (z = true) := Lib.hid (by rw [← hz]; exact decide_eq_true hab)
        have hkn2 : ¬ (k : Int) < k := by omega
        clear hab htk hz
        go_wp2
        go_ret
        exact ⟨by rw [hr.out]; rfl, hB⟩
  · have hr : Hid (z = false) := Lib.hid (by rw [← hz]; exact decide_eq_false (fun e => hnm (by rw [← ha1, ← hb1, e])))
    have hne : ((n : Int) != m) = true := by rw [bne_iff_ne]; omega
    clear hz
    go_enter Try.func16, Try.ntmps16
    go_wp2
    go_ret
    exact ⟨by rw [hr.out]; rfl, Below.refl _ _⟩

end Go.Proofs.Ytpkbikimpjmkgaa

/-
  What the functions of package packet come to: rightExt, rightPad, sum, Right, Size, extBytes, Write. (Written by gen_PackD.py.)
-/
import Derived.Test.YtbalpndgpdbcbaaPackK
import Derived.Test.YtbalpndgpdbcbaaHeadH
import Derived.Test.YtbalpndgpdbcbaaPadG
import Derived.Test.YtbalpndgpdbcbaaOctJ
namespace Go.Proofs.Ytbalpndgpdbcbaa
open Go.RowKit
set_option linter.unusedVariables false
set_option linter.unusedSimpArgs false

/-- Is the extension right; the trailer. -/
def extR (ex : Bool) (pr lb : Nat) : Bool := decide ((ex = false → pr = 0 ∧ lb = 0) ∧ (ex = true → lb % 4 = 0 ∧ lb / 4 ≤ 65535))
def padR (pd : Bool) (k : Int) : Bool := decide ((pd = true → 1 ≤ k ∧ k ≤ 255) ∧ (pd = false → k = 0))

set_option maxHeartbeats 1000000 in
theorem prext_any (pd ex mk : Bool) (t : Int) (q ti ss : Nat) (A : Option Addr) (n c : Nat) (pr : Nat) (B : Option Addr) (lb cb : Nat) (C : Option Addr) (lc cc : Nat) (k : Int) (w : World) (hb : (lb : Int) ≤ 1000000) :
    Calls Try.prog 35 #[.agg #[.bool pd, .bool ex, .bool mk, .int .i64 t, .int .u16 q, .int .u32 ti, .int .u32 ss, .slice A n c, .int .u16 pr, .slice B lb cb, .slice C lc cc, .int .i64 k]] w (Says w (.bool (extR ex pr lb))) := by
  obtain ⟨b, hb2⟩ : ∃ b, extR ex pr lb = b := ⟨_, rfl⟩
  rw [hb2]
  unfold extR at hb2
  have Hb := Lib.hid hb2
  clear hb2
  have hr0 : Int.tmod (lb : Int) 4 = ((lb % 4 : Nat) : Int) := by rw [Int.tmod_eq_emod_of_nonneg (by omega)]; omega
  have hq4 : Int.tdiv (lb : Int) 4 = ((lb / 4 : Nat) : Int) := by rw [Int.tdiv_eq_ediv_of_nonneg (by omega)]; omega
  cases ex
  all_goals
    go_enter Try.func35, Try.ntmps35
    go_wp2_with fail
  all_goals
    go_ret
    refine ⟨?_, below1 w _⟩
    rw [← Hb.out]
    clear Hb
    first
      | (refine congrArg (fun z => Ending.returned (.bool z)) (decide_eq_true ?_).symm; simp_all <;> omega)
      | (refine congrArg (fun z => Ending.returned (.bool z)) (decide_eq_false ?_).symm; simp_all <;> omega)
      | (refine congrArg (fun z => Ending.returned (.bool z)) ?_; simp_all; done)
      | (refine congrArg (fun z => Ending.returned (.bool z)) ?_; rw [Bool.eq_iff_iff]; simp_all <;> omega)

set_option maxHeartbeats 1000000 in
theorem prpad_any (pd ex mk : Bool) (t : Int) (q ti ss : Nat) (A : Option Addr) (n c : Nat) (pr : Nat) (B : Option Addr) (lb cb : Nat) (C : Option Addr) (lc cc : Nat) (k : Int) (w : World) :
    Calls Try.prog 36 #[.agg #[.bool pd, .bool ex, .bool mk, .int .i64 t, .int .u16 q, .int .u32 ti, .int .u32 ss, .slice A n c, .int .u16 pr, .slice B lb cb, .slice C lc cc, .int .i64 k]] w (Says w (.bool (padR pd k))) := by
  obtain ⟨b, hb2⟩ : ∃ b, padR pd k = b := ⟨_, rfl⟩
  rw [hb2]
  unfold padR at hb2
  have Hb := Lib.hid hb2
  clear hb2
  cases pd
  all_goals
    go_enter Try.func36, Try.ntmps36
    go_wp2_with fail
  all_goals
    go_ret
    refine ⟨?_, below1 w _⟩
    rw [← Hb.out]
    clear Hb
    first
      | (refine congrArg (fun z => Ending.returned (.bool z)) (decide_eq_true ?_).symm; simp_all <;> omega)
      | (refine congrArg (fun z => Ending.returned (.bool z)) (decide_eq_false ?_).symm; simp_all <;> omega)
      | (refine congrArg (fun z => Ending.returned (.bool z)) ?_; simp_all; done)
      | (refine congrArg (fun z => Ending.returned (.bool z)) ?_; rw [Bool.eq_iff_iff]; simp_all <;> omega)

/-- What Size answers, of a header that is right. -/
theorem hsize_right (p e m : Bool) (t : Int) (q ti ss : Nat) (A : Option Addr) (n c : Nat) (w : World) (h0 : 0 ≤ t) (h1 : t < 128) (h2 : n < 16) :
    Calls Try.prog 39 #[.agg #[.bool p, .bool e, .bool m, .int .i64 t, .int .u16 q, .int .u32 ti, .int .u32 ss, .slice A n c]] w (Says w (.int .i64 (12 + 4 * (n : Int)))) := by
  have h := hsize_any p e m t q ti ss A n c (List.replicate n 0) w (by simp) (by omega)
  have e1 : sizeH ⟨p, e, m, t, q, ti, ss, List.replicate n 0⟩ = 12 + 4 * (n : Int) := by
    unfold sizeH rightH
    simp only [List.length_replicate]
    exact if_pos (decide_eq_true ⟨h0, h1, h2⟩)
  rwa [e1] at h
/-- How many bytes a packet has, by package packet: a trailer that isn't there has none. -/
def sizeQ (ex : Bool) (n lb lc : Nat) (k : Int) : Int := 12 + 4 * (n : Int) + (lc : Int) + k + (if ex = true then 4 + (lb : Int) else 0)
theorem sizeQ_eq {pd ex : Bool} {n lb lc : Nat} {k : Int} (h : padR pd k = true) : sizeQ ex n lb lc k = sizeN pd ex n lb lc k := by
  unfold padR at h
  rw [decide_eq_true_eq] at h
  unfold sizeQ sizeN
  cases pd
  · have := h.2 rfl; subst this; simp
  · simp only [if_true]; omega

set_option maxHeartbeats 1000000 in
theorem psum_any (pd ex mk : Bool) (t : Int) (q ti ss : Nat) (A : Option Addr) (n c : Nat) (pr : Nat) (B : Option Addr) (lb cb : Nat) (C : Option Addr) (lc cc : Nat) (k : Int) (w : World) (hb : (lb : Int) ≤ 1000000) (hc : (lc : Int) ≤ 1000000) (h0 : 0 ≤ t) (h1 : t < 128) (h2 : n < 16) (hk : 0 ≤ k ∧ k ≤ 255) :
    Calls Try.prog 20 #[.agg #[.bool pd, .bool ex, .bool mk, .int .i64 t, .int .u16 q, .int .u32 ti, .int .u32 ss, .slice A n c, .int .u16 pr, .slice B lb cb, .slice C lc cc, .int .i64 k]] w (Says w (.int .i64 (sizeQ ex n lb lc k))) := by
  obtain ⟨z, hz⟩ : ∃ z, sizeQ ex n lb lc k = z := ⟨_, rfl⟩
  rw [hz]
  unfold sizeQ at hz
  have Hz := Lib.hid hz
  clear hz
  have HS := Lib.hid (fun W => hsize_right pd ex mk t q ti ss A n c W h0 h1 h2)
  clear h0 h1
  have k1 := Box.new w [.bool pd, .bool ex, .bool mk, .int .i64 t, .int .u16 q, .int .u32 ti, .int .u32 ss, .slice A n c, .int .u16 pr, .slice B lb cb, .slice C lc cc, .int .i64 k] 29
  have ka := k1.all12.1
  have hB := below1 w (.cells #[.bool pd, .bool ex, .bool mk, .int .i64 t, .int .u16 q, .int .u32 ti, .int .u32 ss, .slice A n c, .int .u16 pr, .slice B lb cb, .slice C lc cc, .int .i64 k] 29)
  have s1 : IntKind.i64.wrap (12 + 4 * (n : Int) + (lc : Int)) = 12 + 4 * (n : Int) + (lc : Int) := IntWalk.i64_in _ (by omega)
  have s2 : IntKind.i64.wrap (12 + 4 * (n : Int) + (lc : Int) + k) = 12 + 4 * (n : Int) + (lc : Int) + k := IntWalk.i64_in _ (by omega)
  have s3 : IntKind.i64.wrap (4 + (lb : Int)) = 4 + (lb : Int) := IntWalk.i64_in _ (by omega)
  have s4 : IntKind.i64.wrap (12 + 4 * (n : Int) + (lc : Int) + k + (4 + (lb : Int))) = 12 + 4 * (n : Int) + (lc : Int) + k + (4 + (lb : Int)) := IntWalk.i64_in _ (by omega)
  go_enter Try.func20, Try.ntmps20
  go_wp2_with fail
  go_region_held3 (fun W => W.cell? ⟨w.heap.size, 0, none⟩ = some (.bool pd) ∧ W.cell? ⟨w.heap.size, 1, none⟩ = some (.bool ex) ∧ W.cell? ⟨w.heap.size, 2, none⟩ = some (.bool mk) ∧ W.cell? ⟨w.heap.size, 3, none⟩ = some (.int .i64 t) ∧ W.cell? ⟨w.heap.size, 4, none⟩ = some (.int .u16 q) ∧ W.cell? ⟨w.heap.size, 5, none⟩ = some (.int .u32 ti) ∧ W.cell? ⟨w.heap.size, 6, none⟩ = some (.int .u32 ss) ∧ W.cell? ⟨w.heap.size, 7, none⟩ = some (.slice A n c) ∧ W.cell? ⟨w.heap.size, 10, none⟩ = some (.slice C lc cc) ∧ W.cell? ⟨w.heap.size, 11, none⟩ = some (.int .i64 k))
    (go_keep)
    (first | (go_at_call 39; refine (HS.out _).mono ?_; rintro x wS ⟨rfl, hbS⟩; have kS := Box.call (w := (w.alloc (.cells #[.bool pd, .bool ex, .bool mk, .int .i64 t, .int .u16 q, .int .u32 ti, .int .u32 ss, .slice A n c, .int .u16 pr, .slice B lb cb, .slice C lc cc, .int .i64 k] 29)).drew) k1 hbS; have yS := kS.all12.1; replace hB := hB.trans (Below.mono ((Below.refl _ _).drew.trans hbS) (by simp))))
  all_goals cases ex
  all_goals
    go_wp2_with fail
    go_ret
    refine ⟨?_, by assumption⟩
    rw [← Hz.out]
    refine congrArg (fun z => Ending.returned (.int .i64 z)) ?_
    simp only [if_true, Bool.false_eq_true, if_false] <;> omega

/-- The parts of a packet that is right, by package packet. -/
theorem rightP_eq {pd ex mk : Bool} {t : Int} {q ti ss n pr lb lc : Nat} {k : Int} {l : List Nat} {s r : List UInt8} (h1 : l.length = n) (h2 : s.length = lb) (h3 : r.length = lc) :
    rightP ⟨⟨pd, ex, mk, t, q, ti, ss, l⟩, pr, s, r, k⟩ = (rightH ⟨pd, ex, mk, t, q, ti, ss, l⟩ && (extR ex pr lb && (padR pd k && decide (sizeQ ex n lb lc k ≤ 65535)))) := by
  have hz : padR pd k = true → sizeP ⟨⟨pd, ex, mk, t, q, ti, ss, l⟩, pr, s, r, k⟩ = sizeQ ex n lb lc k := by
    intro h
    rw [sizeQ_eq h]
    unfold sizeP sizeN
    simp only [h1, h2, h3]
  rw [Bool.eq_iff_iff]
  simp only [Bool.and_eq_true, decide_eq_true_eq]
  unfold rightP
  rw [decide_eq_true_eq]
  unfold extR padR at *
  simp only [decide_eq_true_eq, h2, h3] at *
  constructor
  · rintro ⟨a1, a2, a3, a4, a5, a6, a7, a8⟩
    have e := hz ⟨a6, a7⟩
    exact ⟨a1, ⟨a5, fun _ => ⟨a4, by omega⟩⟩, ⟨a6, a7⟩, by omega⟩
  · rintro ⟨a1, ⟨a2, a3⟩, a4, a5⟩
    have e := hz a4
    unfold sizeQ at a5
    cases ex
    · simp only [Bool.false_eq_true, if_false] at a5
      have := a2 rfl
      have hk : 0 ≤ k := by cases pd; · have := a4.2 rfl; omega
                            · have := a4.1 rfl; omega
      exact ⟨a1, by omega, by omega, by omega, a2, a4.1, a4.2, by rw [e]; unfold sizeQ; simpa using a5⟩
    · simp only [if_true] at a5
      have := a3 rfl
      have hk : 0 ≤ k := by cases pd; · have := a4.2 rfl; omega
                            · have := a4.1 rfl; omega
      exact ⟨a1, by omega, by omega, by omega, a2, a4.1, a4.2, by rw [e]; unfold sizeQ; simpa using a5⟩

set_option maxHeartbeats 1000000 in
theorem pright_any (pd ex mk : Bool) (t : Int) (q ti ss : Nat) (A : Option Addr) (n c : Nat) (pr : Nat) (B : Option Addr) (lb cb : Nat) (C : Option Addr) (lc cc : Nat) (k : Int) (l : List Nat) (s r : List UInt8) (w : World) (h1 : l.length = n) (h2 : s.length = lb) (h3 : r.length = lc) (hn : (n : Int) ≤ 1000000) (hb : (lb : Int) ≤ 1000000) (hc : (lc : Int) ≤ 1000000) :
    Calls Try.prog 15 #[.agg #[.bool pd, .bool ex, .bool mk, .int .i64 t, .int .u16 q, .int .u32 ti, .int .u32 ss, .slice A n c, .int .u16 pr, .slice B lb cb, .slice C lc cc, .int .i64 k]] w (Says w (.bool (rightP ⟨⟨pd, ex, mk, t, q, ti, ss, l⟩, pr, s, r, k⟩))) := by
  rw [rightP_eq h1 h2 h3]
  have HR := Lib.hid (fun W => hright_any pd ex mk t q ti ss A n c l W h1 (by omega))
  have hp : rightH ⟨pd, ex, mk, t, q, ti, ss, l⟩ = true → 0 ≤ t ∧ t < 128 ∧ n < 16 := by
    intro h
    unfold rightH at h
    rw [decide_eq_true_eq] at h
    rw [← h1]
    exact h
  have HE := Lib.hid (fun W => prext_any pd ex mk t q ti ss A n c pr B lb cb C lc cc k W hb)
  have HP := Lib.hid (fun W => prpad_any pd ex mk t q ti ss A n c pr B lb cb C lc cc k W)
  have HS := Lib.hid (fun W h0 h1 h2 hk => psum_any pd ex mk t q ti ss A n c pr B lb cb C lc cc k W hb hc h0 h1 h2 hk)
  have hq : padR pd k = true → 0 ≤ k ∧ k ≤ 255 := by
    unfold padR
    rw [decide_eq_true_eq]
    rintro ⟨a, b⟩
    cases pd
    · have := b rfl; omega
    · have := a rfl; omega
  generalize rightH ⟨pd, ex, mk, t, q, ti, ss, l⟩ = b1 at *
  generalize extR ex pr lb = b2 at *
  generalize padR pd k = b3 at *
  generalize sizeQ ex n lb lc k = z at *
  clear h1 h2 h3
  have hB := below1 w (.cells #[.bool pd, .bool ex, .bool mk, .int .i64 t, .int .u16 q, .int .u32 ti, .int .u32 ss, .slice A n c, .int .u16 pr, .slice B lb cb, .slice C lc cc, .int .i64 k] 29)
  have k1 := Box.new w [.bool pd, .bool ex, .bool mk, .int .i64 t, .int .u16 q, .int .u32 ti, .int .u32 ss, .slice A n c, .int .u16 pr, .slice B lb cb, .slice C lc cc, .int .i64 k] 29
  have ka := k1.all12.1
  go_enter Try.func15, Try.ntmps15
  go_wp2_with fail
  refine (HR.out _).mono ?_
  rintro x w2 ⟨rfl, hb2⟩
  replace k1 := k1.call hb2
  replace hB := hB.trans (hb2.mono (by simp))
  clear ka hb2
  have ka := k1.all12.1
  cases b1
  · go_wp2_with fail
    go_ret
    exact ⟨by simp, hB⟩
  go_wp2_with fail
  refine (HE.out _).mono ?_
  rintro x w3 ⟨rfl, hb3⟩
  replace k1 := k1.call hb3
  replace hB := hB.trans (hb3.mono hB.size)
  clear ka hb3
  have ka := k1.all12.1
  cases b2
  · go_wp2_with fail
    go_ret
    exact ⟨by simp, hB⟩
  go_wp2_with fail
  refine (HP.out _).mono ?_
  rintro x w4 ⟨rfl, hb4⟩
  replace k1 := k1.call hb4
  replace hB := hB.trans (hb4.mono hB.size)
  clear ka hb4
  have ka := k1.all12.1
  cases b3
  · go_wp2_with fail
    go_ret
    exact ⟨by simp, hB⟩
  obtain ⟨t0, t1, t2⟩ := hp (by first | rfl | trivial)
  have hk := hq (by first | rfl | trivial)
  go_wp2_with fail
  refine (HS.out _ t0 t1 t2 hk).mono ?_
  rintro x w5 ⟨rfl, hb5⟩
  replace hB := hB.trans (hb5.mono hB.size)
  clear ka hb5
  go_wp2_with fail
  go_ret
  exact ⟨by simp, hB⟩

set_option maxHeartbeats 1000000 in
theorem psize_any (pd ex mk : Bool) (t : Int) (q ti ss : Nat) (A : Option Addr) (n c : Nat) (pr : Nat) (B : Option Addr) (lb cb : Nat) (C : Option Addr) (lc cc : Nat) (k : Int) (l : List Nat) (s r : List UInt8) (w : World) (h1 : l.length = n) (h2 : s.length = lb) (h3 : r.length = lc) (hn : (n : Int) ≤ 1000000) (hb : (lb : Int) ≤ 1000000) (hc : (lc : Int) ≤ 1000000) :
    Calls Try.prog 10 #[.agg #[.bool pd, .bool ex, .bool mk, .int .i64 t, .int .u16 q, .int .u32 ti, .int .u32 ss, .slice A n c, .int .u16 pr, .slice B lb cb, .slice C lc cc, .int .i64 k]] w (Says w (.int .i64 (sizePE ⟨⟨pd, ex, mk, t, q, ti, ss, l⟩, pr, s, r, k⟩))) := by
  have HR := Lib.hid (fun W => pright_any pd ex mk t q ti ss A n c pr B lb cb C lc cc k l s r W h1 h2 h3 hn hb hc)
  have HS := Lib.hid (fun W h0 h1 h2 hk => psum_any pd ex mk t q ti ss A n c pr B lb cb C lc cc k W hb hc h0 h1 h2 hk)
  have hq : rightP ⟨⟨pd, ex, mk, t, q, ti, ss, l⟩, pr, s, r, k⟩ = true → sizePE ⟨⟨pd, ex, mk, t, q, ti, ss, l⟩, pr, s, r, k⟩ = sizeQ ex n lb lc k ∧ 0 ≤ t ∧ t < 128 ∧ n < 16 ∧ 0 ≤ k ∧ k ≤ 255 := by
    intro h
    obtain ⟨a1, a2, a3, a4, a5, a6, a7, a8⟩ := rightP_parts h
    simp only at a1 a6 a7
    have hp : padR pd k = true := decide_eq_true ⟨a6, a7⟩
    refine ⟨?_, ?_⟩
    · unfold sizePE
      rw [if_pos h, sizeQ_eq hp]
      unfold sizeP sizeN
      simp only [h1, h2, h3]
    · unfold rightH at a1
      rw [decide_eq_true_eq] at a1
      simp only [h1] at a1
      refine ⟨a1.1, a1.2.1, a1.2.2, ?_⟩
      cases pd
      · have := a7 rfl; omega
      · have := a6 rfl; omega
  have hz : rightP ⟨⟨pd, ex, mk, t, q, ti, ss, l⟩, pr, s, r, k⟩ = false → sizePE ⟨⟨pd, ex, mk, t, q, ti, ss, l⟩, pr, s, r, k⟩ = 0 := by
    intro h
    unfold sizePE
    rw [h]; simp
  generalize sizePE ⟨⟨pd, ex, mk, t, q, ti, ss, l⟩, pr, s, r, k⟩ = z at *
  generalize rightP ⟨⟨pd, ex, mk, t, q, ti, ss, l⟩, pr, s, r, k⟩ = b1 at *
  clear h1 h2 h3
  have hB := below1 w (.cells #[.bool pd, .bool ex, .bool mk, .int .i64 t, .int .u16 q, .int .u32 ti, .int .u32 ss, .slice A n c, .int .u16 pr, .slice B lb cb, .slice C lc cc, .int .i64 k] 29)
  have k1 := Box.new w [.bool pd, .bool ex, .bool mk, .int .i64 t, .int .u16 q, .int .u32 ti, .int .u32 ss, .slice A n c, .int .u16 pr, .slice B lb cb, .slice C lc cc, .int .i64 k] 29
  cases b1
  · have hz2 := hz (by first | rfl | trivial)
    subst hz2
    clear hq hz
    go_enter Try.func10, Try.ntmps10
    go_wp2_with fail
    refine (HR.out _).mono ?_
    rintro x w2 ⟨rfl, hb2⟩
    go_wp2_with fail
    go_ret
    exact ⟨rfl, hB.trans (hb2.mono (by simp))⟩
  · obtain ⟨e, t0, t1, t2, hk⟩ := hq (by first | rfl | trivial)
    subst e
    clear hq hz
    go_enter Try.func10, Try.ntmps10
    go_wp2_with fail
    refine (HR.out _).mono ?_
    rintro x w2 ⟨rfl, hb2⟩
    replace k1 := k1.call hb2
    replace hB := hB.trans (hb2.mono (by simp))
    clear hb2
    have ka := k1.all12.1
    go_wp2_with fail
    refine (HS.out _ t0 t1 t2 hk).mono ?_
    rintro x w5 ⟨rfl, hb5⟩
    replace hB := hB.trans (hb5.mono hB.size)
    clear ka hb5
    go_wp2_with fail
    go_ret
    exact ⟨rfl, hB⟩

set_option maxHeartbeats 1000000 in
theorem pextb_any (pd ex mk : Bool) (t : Int) (q ti ss : Nat) (A : Option Addr) (n c : Nat) (pr : Nat) (B : Option Addr) (lb cb : Nat) (C : Option Addr) (lc cc : Nat) (k : Int) (s : List UInt8) (w : World) (hs : Bs w B lb cb s) (hb : (lb : Int) ≤ 262140) (hf : pr < 65536) :
    Calls Try.prog 23 #[.agg #[.bool pd, .bool ex, .bool mk, .int .i64 t, .int .u16 q, .int .u32 ti, .int .u32 ss, .slice A n c, .int .u16 pr, .slice B lb cb, .slice C lc cc, .int .i64 k]] w fun e w' => ∃ A' c', e = .returned (.slice A' (if ex = true then 4 + lb else 0) c') ∧ Own w' w.heap.size 5 A' (if ex = true then 4 + lb else 0) c' (if ex = true then be 2 pr ++ (be 2 (lb / 4) ++ s) else []) ∧ Below w.heap.size w w' := by
  have hB := below1 w (.cells #[.bool pd, .bool ex, .bool mk, .int .i64 t, .int .u16 q, .int .u32 ti, .int .u32 ss, .slice A n c, .int .u16 pr, .slice B lb cb, .slice C lc cc, .int .i64 k] 29)
  have k1 := Box.new w [.bool pd, .bool ex, .bool mk, .int .i64 t, .int .u16 q, .int .u32 ti, .int .u32 ss, .slice A n c, .int .u16 pr, .slice B lb cb, .slice C lc cc, .int .i64 k] 29
  have hs1 := hs.alloc (.cells #[.bool pd, .bool ex, .bool mk, .int .i64 t, .int .u16 q, .int .u32 ti, .int .u32 ss, .slice A n c, .int .u16 pr, .slice B lb cb, .slice C lc cc, .int .i64 k] 29)
  have hsl := hs.len
  have ka := k1.all12.1
  cases ex
  · rw [if_neg (by simp), if_neg (by simp)]
    go_enter Try.func23, Try.ntmps23
    go_wp2_with fail
    go_ret
    exact ⟨none, 0, rfl, Own.nil _ _ _, hB⟩
  · rw [if_pos rfl, if_pos rfl]
    have hq4 : Int.tdiv (lb : Int) 4 = ((lb / 4 : Nat) : Int) := by rw [Int.tdiv_eq_ediv_of_nonneg (by omega)]; omega
    have hq : lb / 4 < 65536 := by omega
    generalize lb / 4 = lq at *
    have w1 : IntKind.u64.wrap (pr : Int) = (pr : Int) := by rw [IntKind.wrap_u64]; omega
    have w2 : IntKind.u64.wrap (lq : Int) = (lq : Int) := by rw [IntKind.wrap_u64]; omega
    clear hsl
    go_enter Try.func23, Try.ntmps23
    go_wp2_with fail
    refine (oput_any pr 2 _ _ _ (by first | rfl | omega) rfl (by omega) (by omega) (by omega) (by omega)).mono ?_
    rintro x w2 ⟨A2, c2, rfl, ho2, hb2⟩
    replace k1 := k1.call hb2
    replace hB := hB.trans (hb2.mono (by simp))
    replace hs1 := hs1.below hb2
    have h2 := ho2.bs
    clear ka hb2
    have ka := k1.all12.1
    go_wp2_with fail
    refine (oput_any lq 2 _ _ _ (by first | rfl | omega) rfl (by omega) (by omega) (by omega) (by omega)).mono ?_
    rintro x w3 ⟨A3, c3, rfl, ho3, hb3⟩
    replace k1 := k1.call hb3
    replace hB := hB.trans (hb3.mono hB.size)
    replace hs1 := hs1.below hb3
    replace h2 := h2.below hb3
    have h3 := ho3.bs
    clear ka hb3
    have ka := k1.all12.1
    go_wp2_with fail
    refine (join3 A2 2 c2 (be 2 pr) A3 2 c3 (be 2 lq) B lb cb s (4 + lb) w3 h2 h3 hs1 (by omega) (by omega)).mono ?_
    rintro x w4 ⟨A4, c4, rfl, ho4, hb4⟩
    go_wp2_with fail
    go_ret
    exact ⟨A4, c4, rfl, ho4.mono hB.size, hB.trans (hb4.mono hB.size)⟩

theorem hwrite_right (p e m : Bool) (t : Int) (q ti ss : Nat) (A : Option Addr) (n c : Nat) (l : List Nat) (w : World) (hl : Us w A n c l) (hr : rightH ⟨p, e, m, t, q, ti, ss, l⟩ = true) (hf : fitsH ⟨p, e, m, t, q, ti, ss, l⟩) :
    Calls Try.prog 21 #[.agg #[.bool p, .bool e, .bool m, .int .i64 t, .int .u16 q, .int .u32 ti, .int .u32 ss, .slice A n c]] w fun x w' => ∃ A' c', x = .returned (.tuple #[.slice A' (12 + 4 * n) c', .int .i64 0]) ∧ Bs w' A' (12 + 4 * n) c' (headB ⟨p, e, m, t, q, ti, ss, l⟩) ∧ Below w.heap.size w w' := by
  have h := hwrite_yes p e m t q ti ss A n c l w hl hr hf
  unfold GivesS at h
  rw [headB_length, hl.len] at h
  exact h

/-- What stands behind the join. -/
def JoinI (w0 w : World) (yn : Nat) (Y : List UInt8) (bx : List Value) (x : Value) (W : World) : Prop :=
  ∃ A c, x = .slice A yn c ∧ Bs W A yn c Y ∧ Box W w0.heap.size bx ∧ Below w0.heap.size w0 W

set_option maxRecDepth 100000 in
set_option maxHeartbeats 4000000 in
theorem pwrite_yes (pd ex mk : Bool) (t : Int) (q ti ss : Nat) (A : Option Addr) (n c : Nat) (pr : Nat) (B : Option Addr) (lb cb : Nat) (C : Option Addr) (lc cc : Nat) (k : Int) (l : List Nat) (s r : List UInt8) (room : Int) (w : World) (hu : Us w A n c l) (hs : Bs w B lb cb s) (hr : Bs w C lc cc r) (hn : (n : Int) ≤ 1000000) (hb : (lb : Int) ≤ 1000000) (hc : (lc : Int) ≤ 1000000)
    (hrt : rightP ⟨⟨pd, ex, mk, t, q, ti, ss, l⟩, pr, s, r, k⟩ = true) (hf : fitsP ⟨⟨pd, ex, mk, t, q, ti, ss, l⟩, pr, s, r, k⟩) (hroom : sizeP ⟨⟨pd, ex, mk, t, q, ti, ss, l⟩, pr, s, r, k⟩ ≤ room) :
    Calls Try.prog 9 #[.agg #[.bool pd, .bool ex, .bool mk, .int .i64 t, .int .u16 q, .int .u32 ti, .int .u32 ss, .slice A n c, .int .u16 pr, .slice B lb cb, .slice C lc cc, .int .i64 k], .int .i64 room] w (GivesS w (packB ⟨⟨pd, ex, mk, t, q, ti, ss, l⟩, pr, s, r, k⟩) 0) := by
  have h1 := hu.len
  have h2 := hs.len
  have h3 := hr.len
  have HR := Lib.hid (fun W => pright_any pd ex mk t q ti ss A n c pr B lb cb C lc cc k l s r W h1 h2 h3 hn hb hc)
  rw [hrt] at HR
  obtain ⟨a1, a2, a3, a4, a5, a6, a7, a8⟩ := rightP_parts hrt
  simp only at a1 a2 a3 a4 a5 a6 a7
  have hp : padR pd k = true := decide_eq_true ⟨a6, a7⟩
  have hz : sizeP ⟨⟨pd, ex, mk, t, q, ti, ss, l⟩, pr, s, r, k⟩ = sizeQ ex n lb lc k := by
    rw [sizeQ_eq hp]
    unfold sizeP sizeN
    simp only [h1, h2, h3]
  rw [hz] at hroom a8
  have ht : 0 ≤ t ∧ t < 128 ∧ n < 16 := by
    have a := a1
    unfold rightH at a
    rw [decide_eq_true_eq] at a
    rw [← h1]
    exact a
  have hk : 0 ≤ k ∧ k ≤ 255 := by
    cases pd
    · have := a7 rfl; omega
    · have := a6 rfl; omega
  have HS := Lib.hid (fun W => psum_any pd ex mk t q ti ss A n c pr B lb cb C lc cc k W hb hc ht.1 ht.2.1 ht.2.2 hk)
  have HW := Lib.hid (fun W hu => hwrite_right pd ex mk t q ti ss A n c l W hu a1 hf.1)
  have HE := Lib.hid (fun W hs => pextb_any pd ex mk t q ti ss A n c pr B lb cb C lc cc k s W hs (by omega) hf.2)
  have hY : bodyP ⟨⟨pd, ex, mk, t, q, ti, ss, l⟩, pr, s, r, k⟩ = headB ⟨pd, ex, mk, t, q, ti, ss, l⟩ ++ ((if ex = true then be 2 pr ++ (be 2 (lb / 4) ++ s) else []) ++ r) := by unfold bodyP extB; rw [← h2]
  have hP : packB ⟨⟨pd, ex, mk, t, q, ti, ss, l⟩, pr, s, r, k⟩ = if pd = true then addB (bodyP ⟨⟨pd, ex, mk, t, q, ti, ss, l⟩, pr, s, r, k⟩) k.toNat else bodyP ⟨⟨pd, ex, mk, t, q, ti, ss, l⟩, pr, s, r, k⟩ := rfl
  generalize packB ⟨⟨pd, ex, mk, t, q, ti, ss, l⟩, pr, s, r, k⟩ = PB at *
  generalize bodyP ⟨⟨pd, ex, mk, t, q, ti, ss, l⟩, pr, s, r, k⟩ = Y at *
  generalize headB ⟨pd, ex, mk, t, q, ti, ss, l⟩ = H at *
  generalize (if ex = true then be 2 pr ++ (be 2 (lb / 4) ++ s) else []) = E at *
  obtain ⟨en, hen⟩ : ∃ en, (if ex = true then 4 + lb else 0) = en := ⟨_, rfl⟩
  rw [hen] at HE
  have henb : en ≤ 262144 := by rw [← hen]; split <;> omega
  have hlcb : lc ≤ 65535 := by omega
  have HY := Lib.hid hY
  have HP := Lib.hid hP
  generalize sizeQ ex n lb lc k = z at *
  clear hY hP hen hrt hz hf a1 a2 a3 a4 a5 a7 a8 hp h1 h2 h3 hn hb hc
  obtain ⟨bx, hbx⟩ : ∃ bx : List Value, bx = [.bool pd, .bool ex, .bool mk, .int .i64 t, .int .u16 q, .int .u32 ti, .int .u32 ss, .slice A n c, .int .u16 pr, .slice B lb cb, .slice C lc cc, .int .i64 k] := ⟨_, rfl⟩
  have hB := below1 w (.cells #[.bool pd, .bool ex, .bool mk, .int .i64 t, .int .u16 q, .int .u32 ti, .int .u32 ss, .slice A n c, .int .u16 pr, .slice B lb cb, .slice C lc cc, .int .i64 k] 29)
  have k1 := Box.new w [.bool pd, .bool ex, .bool mk, .int .i64 t, .int .u16 q, .int .u32 ti, .int .u32 ss, .slice A n c, .int .u16 pr, .slice B lb cb, .slice C lc cc, .int .i64 k] 29
  go_enter Try.func9, Try.ntmps9
  go_wp2_with fail
  refine (HR.out _).mono ?_
  rintro x w2 ⟨rfl, hb2⟩
  replace k1 := k1.call hb2
  replace hB := hB.trans (hb2.mono (by simp))
  clear hb2
  have ka := k1.all12.1
  go_wp2_with fail
  refine (HS.out _).mono ?_
  rintro x w3 ⟨rfl, hb3⟩
  replace k1 := k1.call hb3
  replace hB := hB.trans (hb3.mono hB.size)
  clear hb3 ka
  have ka := k1.all12.1
  have hgt : decide (room < z) = false := decide_eq_false (by omega)
  go_wp2_with fail
  refine (HW.out _ (hu.below hB)).mono ?_
  rintro x w4 ⟨A4, c4, rfl, hH, hb4⟩
  replace k1 := k1.call hb4
  replace hB := hB.trans (hb4.mono hB.size)
  clear hb4 ka
  have ka := k1.all12.1
  have hs4 := hs.below hB
  have hr4 := hr.below hB
  have lk := k1.2.2
  go_upto_region 1 with fail
  go_cut [8] (fun x W => JoinI w w4 (12 + 4 * n + en + lc) Y bx x W)
  case first =>
    go_region_held3 (fun W => W.cell? ⟨w.heap.size, 0, none⟩ = some (.bool pd) ∧ W.cell? ⟨w.heap.size, 1, none⟩ = some (.bool ex) ∧ W.cell? ⟨w.heap.size, 2, none⟩ = some (.bool mk) ∧ W.cell? ⟨w.heap.size, 3, none⟩ = some (.int .i64 t) ∧ W.cell? ⟨w.heap.size, 4, none⟩ = some (.int .u16 q) ∧ W.cell? ⟨w.heap.size, 5, none⟩ = some (.int .u32 ti) ∧ W.cell? ⟨w.heap.size, 6, none⟩ = some (.int .u32 ss) ∧ W.cell? ⟨w.heap.size, 7, none⟩ = some (.slice A n c) ∧ W.cell? ⟨w.heap.size, 8, none⟩ = some (.int .u16 pr) ∧ W.cell? ⟨w.heap.size, 9, none⟩ = some (.slice B lb cb) ∧ W.cell? ⟨w.heap.size, 10, none⟩ = some (.slice C lc cc) ∧ W.cell? ⟨w.heap.size, 11, none⟩ = some (.int .i64 k))
      (go_keep)
      (first
        | (go_at_call 23; refine (HE.out _ hs4.drew).mono ?_; rintro x wE ⟨AE, cE, rfl, hoE, hbE⟩; have kE := Box.call (w := w4.drew) k1 hbE; have yE := kE.all12.1)
        | (go_at_call 22; refine (join3 A4 (12 + 4 * n) c4 H AE en cE E C lc cc r (12 + 4 * n + en + lc) wE (Bs.below (w := w4.drew) hH hbE) hoE.bs (Bs.below (w := w4.drew) hr4 hbE) rfl (by omega)).mono ?_; rintro x wJ ⟨AJ, cJ, rfl, hoJ, hbJ⟩; have kJ := kE.call hbJ; have yJ := kJ.all12.1))
    all_goals
      go_wp2_with fail
      go_meet
      have hBJ := hB.trans (Below.mono ((Below.refl _ _).drew.trans (hbE.trans (hbJ.mono hbE.size))) hB.size)
      exact ⟨AJ, cJ, rfl, by rw [HY.out]; exact hoJ.bs, by rw [hbx]; exact kJ, hBJ⟩
  case rest =>
    obtain ⟨A5, c5, rfl, hY5, k5, hB5⟩ := hcut
    rw [hbx] at k5
    clear ka k1 hB HW HE HS HR
    have ka := k5.all12.1
    cases pd
    · go_wp2_with fail
      go_ret2
      have e1 := HP.out
      rw [if_neg (by simp)] at e1
      rw [e1, GivesS, hY5.len]
      exact ⟨A5, c5, rfl, hY5, hB5⟩
    · obtain ⟨m, rfl⟩ := Int.eq_ofNat_of_zero_le hk.1
      have hm := a6 rfl
      go_wp2_with fail
      refine (add_yes A5 (12 + 4 * n + en + lc) c5 Y m _ hY5 (by omega) (by omega) (by omega)).mono ?_
      rintro x w6 ⟨A6, c6, rfl, ho6, hb6⟩
      go_wp2_with fail
      go_ret2
      have e1 := HP.out
      rw [if_pos (by simp), Int.toNat_natCast] at e1
      rw [e1]
      exact ⟨A6, c6, rfl, ho6.bs, hB5.trans (hb6.mono hB5.size)⟩

set_option maxHeartbeats 1000000 in
theorem pwrite_no (pd ex mk : Bool) (t : Int) (q ti ss : Nat) (A : Option Addr) (n c : Nat) (pr : Nat) (B : Option Addr) (lb cb : Nat) (C : Option Addr) (lc cc : Nat) (k : Int) (l : List Nat) (s r : List UInt8) (room : Int) (w : World) (h1 : l.length = n) (h2 : s.length = lb) (h3 : r.length = lc) (hn : (n : Int) ≤ 1000000) (hb : (lb : Int) ≤ 1000000) (hc : (lc : Int) ≤ 1000000)
    (hrt : rightP ⟨⟨pd, ex, mk, t, q, ti, ss, l⟩, pr, s, r, k⟩ = false) :
    Calls Try.prog 9 #[.agg #[.bool pd, .bool ex, .bool mk, .int .i64 t, .int .u16 q, .int .u32 ti, .int .u32 ss, .slice A n c, .int .u16 pr, .slice B lb cb, .slice C lc cc, .int .i64 k], .int .i64 room] w (GivesS w [] 1) := by
  have HR := Lib.hid (fun W => pright_any pd ex mk t q ti ss A n c pr B lb cb C lc cc k l s r W h1 h2 h3 hn hb hc)
  rw [hrt] at HR
  clear hrt h1 h2 h3
  have hB := below1 w (.cells #[.bool pd, .bool ex, .bool mk, .int .i64 t, .int .u16 q, .int .u32 ti, .int .u32 ss, .slice A n c, .int .u16 pr, .slice B lb cb, .slice C lc cc, .int .i64 k] 29)
  go_enter Try.func9, Try.ntmps9
  go_wp2_with fail
  refine (HR.out _).mono ?_
  rintro x w2 ⟨rfl, hb2⟩
  go_wp2_with fail
  go_ret2
  exact ⟨none, 0, rfl, Bs.nil _, hB.trans (hb2.mono (by simp))⟩
set_option maxHeartbeats 1000000 in
theorem pwrite_room (pd ex mk : Bool) (t : Int) (q ti ss : Nat) (A : Option Addr) (n c : Nat) (pr : Nat) (B : Option Addr) (lb cb : Nat) (C : Option Addr) (lc cc : Nat) (k : Int) (l : List Nat) (s r : List UInt8) (room : Int) (w : World) (h1 : l.length = n) (h2 : s.length = lb) (h3 : r.length = lc) (hn : (n : Int) ≤ 1000000) (hb : (lb : Int) ≤ 1000000) (hc : (lc : Int) ≤ 1000000)
    (hrt : rightP ⟨⟨pd, ex, mk, t, q, ti, ss, l⟩, pr, s, r, k⟩ = true) (hroom : room < sizeP ⟨⟨pd, ex, mk, t, q, ti, ss, l⟩, pr, s, r, k⟩) :
    Calls Try.prog 9 #[.agg #[.bool pd, .bool ex, .bool mk, .int .i64 t, .int .u16 q, .int .u32 ti, .int .u32 ss, .slice A n c, .int .u16 pr, .slice B lb cb, .slice C lc cc, .int .i64 k], .int .i64 room] w (GivesS w [] 7) := by
  have HR := Lib.hid (fun W => pright_any pd ex mk t q ti ss A n c pr B lb cb C lc cc k l s r W h1 h2 h3 hn hb hc)
  rw [hrt] at HR
  obtain ⟨a1, a2, a3, a4, a5, a6, a7, a8⟩ := rightP_parts hrt
  simp only at a1 a2 a3 a4 a5 a6 a7
  have hp : padR pd k = true := decide_eq_true ⟨a6, a7⟩
  have hz : sizeP ⟨⟨pd, ex, mk, t, q, ti, ss, l⟩, pr, s, r, k⟩ = sizeQ ex n lb lc k := by
    rw [sizeQ_eq hp]
    unfold sizeP sizeN
    simp only [h1, h2, h3]
  rw [hz] at hroom
  have ht : 0 ≤ t ∧ t < 128 ∧ n < 16 := by
    have a := a1
    unfold rightH at a
    rw [decide_eq_true_eq] at a
    rw [← h1]
    exact a
  have hk : 0 ≤ k ∧ k ≤ 255 := by
    cases pd
    · have := a7 rfl; omega
    · have := a6 rfl; omega
  have HS := Lib.hid (fun W => psum_any pd ex mk t q ti ss A n c pr B lb cb C lc cc k W hb hc ht.1 ht.2.1 ht.2.2 hk)
  generalize sizeQ ex n lb lc k = z at *
  clear hrt h1 h2 h3 a1 a2 a3 a4 a5 a6 a7 a8 hp hz
  have hB := below1 w (.cells #[.bool pd, .bool ex, .bool mk, .int .i64 t, .int .u16 q, .int .u32 ti, .int .u32 ss, .slice A n c, .int .u16 pr, .slice B lb cb, .slice C lc cc, .int .i64 k] 29)
  have k1 := Box.new w [.bool pd, .bool ex, .bool mk, .int .i64 t, .int .u16 q, .int .u32 ti, .int .u32 ss, .slice A n c, .int .u16 pr, .slice B lb cb, .slice C lc cc, .int .i64 k] 29
  go_enter Try.func9, Try.ntmps9
  go_wp2_with fail
  refine (HR.out _).mono ?_
  rintro x w2 ⟨rfl, hb2⟩
  replace k1 := k1.call hb2
  replace hB := hB.trans (hb2.mono (by simp))
  clear hb2
  have ka := k1.all12.1
  go_wp2_with fail
  refine (HS.out _).mono ?_
  rintro x w3 ⟨rfl, hb3⟩
  replace hB := hB.trans (hb3.mono hB.size)
  have hgt : decide (room < z) = true := decide_eq_true hroom
  clear ka
  go_wp2_with fail
  go_ret2
  exact ⟨none, 0, rfl, Bs.nil _, hB⟩

/-- All of Write. -/
theorem pwrite_any (p : Pk) (A : Option Addr) (n c : Nat) (B : Option Addr) (lb cb : Nat) (C : Option Addr) (lc cc : Nat) (room : Int) (w : World) (h : PkOk w p A n c B lb cb C lc cc) :
    Calls Try.prog 9 #[pkV p A n c B lb cb C lc cc, .int .i64 room] w (GivesS w (writeP p room) (writePE p room)) := by
  obtain ⟨⟨hu, hs, hr⟩, hn, hb, hc, hf, ht, hk⟩ := h
  obtain ⟨⟨pd, ex, mk, t, q, ti, ss, l⟩, pr, s, r, k⟩ := p
  simp only at hu hs hr
  rcases Bool.eq_false_or_eq_true (rightP ⟨⟨pd, ex, mk, t, q, ti, ss, l⟩, pr, s, r, k⟩) with hrt | hrt
  · by_cases hroom : sizeP ⟨⟨pd, ex, mk, t, q, ti, ss, l⟩, pr, s, r, k⟩ ≤ room
    · rw [(writeP_yes hrt hroom).1, (writeP_yes hrt hroom).2.1]
      exact pwrite_yes pd ex mk t q ti ss A n c pr B lb cb C lc cc k l s r room w hu hs hr (by omega) (by omega) (by omega) hrt hf hroom
    · rw [(writeP_room hrt (by omega)).1, (writeP_room hrt (by omega)).2.1]
      exact pwrite_room pd ex mk t q ti ss A n c pr B lb cb C lc cc k l s r room w hu.len hs.len hr.len (by omega) (by omega) (by omega) hrt (by omega)
  · rw [(writeP_no hrt).1, (writeP_no hrt).2.1]
    exact pwrite_no pd ex mk t q ti ss A n c pr B lb cb C lc cc k l s r room w hu.len hs.len hr.len (by omega) (by omega) (by omega) hrt

end Go.Proofs.Ytbalpndgpdbcbaa

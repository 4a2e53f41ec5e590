/-
  What the document's own answers for layer 6 come to: Write.
-/
import Derived.Test.YtbalpndgpdbcbaaPackR1
namespace Go.Proofs.Ytbalpndgpdbcbaa
open Go.RowKit
set_option linter.unusedVariables false
set_option linter.unusedSimpArgs false

theorem radd_int (A : Option Addr) (l c : Nat) (s : List UInt8) (n : Int) (m : Nat) (w : World) (hs : Bs w A l c s) (hl : l ≤ 140737488355000) (hn : n = (m : Int)) (h1 : 1 ≤ m) (h2 : m ≤ 255) :
    Calls Try.prog 27 #[.slice A l c, .int .i64 n] w fun e w' => GivesB w 5 (addB s m) e w' := by
  subst hn
  exact radd_any A l c s m w hs hl h1 h2
def WriteP (w : World) (yn : Nat) (Y : List UInt8) (bx : List Value) (x : Value) (W : World) : Prop :=
  ∃ A c, x = .slice A yn c ∧ Own W (w.heap.size + 1) 5 A yn c Y ∧ Box W w.heap.size bx ∧ Below w.heap.size w W

set_option maxRecDepth 100000 in
set_option maxHeartbeats 2000000 in
theorem rpwrite_any (p : Pk) (A : Option Addr) (n c : Nat) (B : Option Addr) (lb cb : Nat) (C : Option Addr) (lc cc : Nat) (w : World) (h : PkIn w p A n c B lb cb C lc cc) (hr : rightP p = true) (hf : fitsP p) :
    Calls Try.prog 12 #[pkV p A n c B lb cb C lc cc] w (GivesB w 5 (packB p)) := by
  have l1 := h.us.len
  have l2 := h.ext.len
  have l3 := h.pay.len
  have hpl := packB_length hr
  have hyl := bodyP_length p
  unfold rightP at hr
  rw [decide_eq_true_eq] at hr
  obtain ⟨r1, r2, r3, r4, r5, r6, r7, r8⟩ := hr
  obtain ⟨hf1, hf2⟩ := hf
  have h15 : p.hd.csrc.length < 16 := by unfold rightH at r1; rw [decide_eq_true_eq] at r1; exact r1.2.2
  have hHl : (headB p.hd).length = 12 + 4 * n := by rw [headB_length, l1]
  have hY : bodyP p = headB p.hd ++ (extB p ++ p.pay) := rfl
  have hE : extB p = if p.hd.ext = true then be 2 p.prof ++ (be 2 (p.ext.length / 4) ++ p.ext) else [] := rfl
  have hP : packB p = if p.hd.pad = true then addB (bodyP p) p.pad.toNat else bodyP p := rfl
  obtain ⟨us, ext, pay⟩ := h
  rw [l1] at h15
  rw [l2] at r3 r4 hE
  rw [l3] at r2
  obtain ⟨⟨pd, ex, mk, t, q, ti, ss, l⟩, pr, s, r, k⟩ := p
  simp only at us ext pay l1 l2 l3 r1 r2 r3 r4 r6 r7 hf1 hf2 hE hP hY hHl hyl h15 ⊢
  have HW := Lib.hid (fun W hl => rhwrite_any pd ex mk t q ti ss A n c l W hl r1 hf1)
  generalize headB ⟨pd, ex, mk, t, q, ti, ss, l⟩ = H at *
  generalize bodyP ⟨⟨pd, ex, mk, t, q, ti, ss, l⟩, pr, s, r, k⟩ = Y at *
  generalize extB ⟨⟨pd, ex, mk, t, q, ti, ss, l⟩, pr, s, r, k⟩ = E at *
  generalize packB ⟨⟨pd, ex, mk, t, q, ti, ss, l⟩, pr, s, r, k⟩ = P at *
  obtain ⟨yn, hyn⟩ : ∃ yn, Y.length = yn := ⟨_, rfl⟩
  have hyb : yn ≤ 400000 := by rw [l2, l3, l1] at hyl; split at hyl <;> omega
  have HY := Lib.hid hY
  have HE := Lib.hid hE
  have HP := Lib.hid hP
  have Hyn := Lib.hid hyn
  have HHl := Lib.hid hHl
  have Hl := Lib.hid (And.intro l2 l3)
  have hq4 : Int.tdiv (lb : Int) 4 = ((lb / 4 : Nat) : Int) := by rw [Int.tdiv_eq_ediv_of_nonneg (by omega)]; omega
  clear hY hE hP hyn hHl hyl l1 l2 l3 hpl r5 r8
  have hq : lb / 4 ≤ 65535 := by omega
  generalize lb / 4 = lq at *
  unfold pkV
  obtain ⟨bx, hbx⟩ : ∃ bx : List Value, bx = [.bool pd, .bool ex, .bool mk, .int .i64 t, .int .u16 q, .int .u32 ti, .int .u32 ss, .slice A n c, .int .u16 pr, .slice B lb cb, .slice C lc cc, .int .i64 k] := ⟨_, rfl⟩
  have k1 : Box (w.alloc (.cells #[.bool pd, .bool ex, .bool mk, .int .i64 t, .int .u16 q, .int .u32 ti, .int .u32 ss, .slice A n c, .int .u16 pr, .slice B lb cb, .slice C lc cc, .int .i64 k] 29)) w.heap.size bx := by rw [hbx]; exact Box.new w _ _
  have g0 : bx[0]? = some (.bool pd) := by rw [hbx]; rfl
  have g1 : bx[1]? = some (.bool ex) := by rw [hbx]; rfl
  have g8 : bx[8]? = some (.int .u16 pr) := by rw [hbx]; rfl
  have g9 : bx[9]? = some (.slice B lb cb) := by rw [hbx]; rfl
  have g10 : bx[10]? = some (.slice C lc cc) := by rw [hbx]; rfl
  have g11 : bx[11]? = some (.int .i64 k) := by rw [hbx]; rfl
  clear hbx
  have hB := below1 w (.cells #[.bool pd, .bool ex, .bool mk, .int .i64 t, .int .u16 q, .int .u32 ti, .int .u32 ss, .slice A n c, .int .u16 pr, .slice B lb cb, .slice C lc cc, .int .i64 k] 29)
  go_enter Try.func12, Try.ntmps12
  go_wp2_with fail
  refine (HW.out _ (us.alloc _)).mono ?_
  rintro x w2 ⟨A2, c2, rfl, hown, hb⟩
  rw [HHl.out] at hown ⊢
  replace k1 := k1.call hb
  replace hB := hB.trans (hb.mono (by simp))
  rw [World.size_alloc] at hown
  have hsz := hB.size
  have e1 := k1.field 1 g1
  obtain ⟨en, hen⟩ : ∃ en, en = if ex = true then 4 + lb else 0 := ⟨_, rfl⟩
  have henb : en ≤ 300000 := by rw [hen]; split <;> omega
  have HEN := Lib.hid hen
  clear hen
  go_upto_if 9 with fail
  go_cut [3] (fun x W => WriteP w (12 + 4 * n + en) (H ++ E) bx x W)
  case first =>
    cases ex with
    | false =>
      go_wp2_with fail
      go_meet
      refine ⟨A2, c2, ?_, ?_, k1, hB⟩
      · rw [HEN.out]; simp
      · rw [HEN.out, HE.out]; simpa using hown
    | true =>
      have e8 := k1.field 8 g8
      go_wp2_with fail
      refine (rmust_int _ pr 2 _ rfl (by omega) (by omega) (by simpa using hf2)).mono ?_
      rintro x w3 ⟨A3, c3, rfl, hs3, hb⟩
      replace hown := hown.below hb
      replace k1 := k1.call hb
      replace hB := hB.trans (hb.mono hB.size)
      clear e1 e8
      go_wp2_with (at_builtin; go_loud (refine wpList_app _ rfl (.tmp 10) (.tmp 14) 27 rfl (w.heap.size + 1) 5 Try.underlying27 byte_info _ (12 + 4 * n) c2 _ rfl hown A3 2 c3 (be 2 pr) rfl hs3 (by omega) (by have := k1.2.2; omega) ?_); intro A4 c4 w4 hown4 hb4; replace k1 := k1.below hb4 (Nat.lt_succ_self _); replace hB := hB.trans (hb4.mono (Nat.le_succ _)); have e9 := k1.field 9 g9)
      refine (rmust_int _ lq 2 _ rfl (by omega) (by omega) (by simp; omega)).mono ?_
      rintro x w5 ⟨A5, c5, rfl, hs5, hb⟩
      replace hown4 := hown4.below hb
      replace k1 := k1.call hb
      replace hB := hB.trans (hb.mono hB.size)
      clear hown hs3 hb4 e9
      have e9 := k1.field 9 g9
      have hx := ext.below hB
      go_wp2_with (at_builtin; first
        | (refine wpList_app _ rfl (.tmp 16) (.tmp 22) 27 rfl (w.heap.size + 1) 5 Try.underlying27 byte_info _ (12 + 4 * n + 2) c4 _ rfl hown4 A5 2 c5 (be 2 lq) rfl hs5 (by omega) (by have := k1.2.2; omega) ?_; intro A6 c6 w6 hown6 hb6; replace k1 := k1.below hb6 (Nat.lt_succ_self _); replace hB := hB.trans (hb6.mono (Nat.le_succ _)); replace hx := ext.below hB; have e9' := k1.field 9 g9)
        | go_loud (refine wpList_app _ rfl (.tmp 24) (.tmp 26) 27 rfl (w.heap.size + 1) 5 Try.underlying27 byte_info _ (12 + 4 * n + 2 + 2) c6 _ rfl hown6 B lb cb s rfl hx (by omega) (by have := k1.2.2; omega) ?_; intro A7 c7 w7 hown7 hb7; replace k1 := k1.below hb7 (Nat.lt_succ_self _); replace hB := hB.trans (hb7.mono (Nat.le_succ _))))
      go_meet
      refine ⟨A7, c7, ?_, ?_, k1, hB⟩
      · rw [HEN.out.trans (if_pos (by simp)), show 12 + 4 * n + (4 + lb) = 12 + 4 * n + 2 + 2 + lb by omega]
      · rw [HEN.out.trans (if_pos (by simp)), HE.out.trans (if_pos (by simp)), show 12 + 4 * n + (4 + lb) = 12 + 4 * n + 2 + 2 + lb by omega, ← List.append_assoc, ← List.append_assoc]
        exact hown7
  case rest =>
    obtain ⟨A4, c4, rfl, hown4, k4, hB4⟩ := hcut
    clear k1 hB hown hb e1
    have e10 := k4.field 10 g10
    have hx := pay.below hB4
    have hyn : yn = 12 + 4 * n + en + lc := by
      rw [← Hyn.out, HY.out, ← List.append_assoc, List.length_append, hown4.len, Hl.out.2]
    have hsz4 := hB4.size
    have HN := Lib.hid hyn
    have hyn2 : 12 + 4 * n + en + lc ≤ 400000 := by omega
    clear hyn
    cases pd with
    | false =>
      go_wp2_with (at_builtin; go_loud (refine wpList_app _ rfl (.tmp 28) (.tmp 30) 27 rfl (w.heap.size + 1) 5 Try.underlying27 byte_info _ (12 + 4 * n + en) c4 _ rfl hown4 C lc cc r rfl hx (by omega) (by have := k4.2.2; omega) ?_); intro A7 c7 w7 hown7 hb7; replace k4 := k4.below hb7 (Nat.lt_succ_self _); replace hB4 := hB4.trans (hb7.mono (Nat.le_succ _)); have e0 := k4.field 0 g0)
      go_ret
      have hPY : P = Y := HP.out.trans (if_neg (by simp))
      rw [List.append_assoc, ← HY.out, ← HN.out] at hown7
      refine ⟨A7, c7, ?_, ?_, hB4⟩
      · rw [hPY, Hyn.out, HN.out]; rfl
      · rw [hPY, Hyn.out]; exact hown7.mono (Nat.le_succ _)
    | true =>
      obtain ⟨rk1, rk2⟩ := r6 rfl
      obtain ⟨kk, rfl⟩ := Int.eq_ofNat_of_zero_le (show 0 ≤ k by omega)
      go_wp2_with (at_builtin; go_loud (refine wpList_app _ rfl (.tmp 28) (.tmp 30) 27 rfl (w.heap.size + 1) 5 Try.underlying27 byte_info _ (12 + 4 * n + en) c4 _ rfl hown4 C lc cc r rfl hx (by omega) (by have := k4.2.2; omega) ?_); intro A7 c7 w7 hown7 hb7; replace k4 := k4.below hb7 (Nat.lt_succ_self _); replace hB4 := hB4.trans (hb7.mono (Nat.le_succ _)); have e0 := k4.field 0 g0; have e11 := k4.field 11 g11)
      rw [List.append_assoc, ← HY.out] at hown7
      have hPY : P = addB Y kk := by have := HP.out; simpa using this
      refine (radd_int A7 _ c7 Y _ kk _ hown7.bs (by omega) rfl (by omega) (by omega)).mono ?_
      rintro x w8 ⟨A8, c8, rfl, hown8, hb8⟩
      have HPY := Lib.hid hPY
      clear hPY
      go_wp2_with fail
      go_ret
      rw [HPY.out]
      exact ⟨A8, c8, rfl, hown8.mono (by have := hB4.size; omega), hB4.trans (hb8.mono hB4.size)⟩

end Go.Proofs.Ytbalpndgpdbcbaa

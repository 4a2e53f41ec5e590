/-
  What the document's own answers for layer 5 come to: a header's bytes.
-/
import Derived.Test.YtbalpndgpdbcbaaHeadR
import Derived.Test.YtbalpndgpdbcbaaApp
import Derived.Test.YtbalpndgpdbcbaaStr
import Derived.Deep.DeepCutAuto
namespace Go.Proofs.Ytbalpndgpdbcbaa
open Go.RowKit

theorem rmust_any (v n : Nat) (w : World) (h1 : 1 ≤ n) (h2 : n ≤ 8) (hv : v < 256 ^ n) :
    Calls Try.prog 26 #[.int .u64 v, .int .i64 n] w (GivesB w 5 (be n v)) := by
  have hp := pow256_le h2
  have hput := Lib.hid (rput_any v n w (by omega))
  rw [(putE_yes h1 h2 hv).1, (putE_yes h1 h2 hv).2] at hput
  clear hp
  go_enter Try.func26, Try.ntmps26
  go_wp2_with fail
  refine (hput.out).mono ?_
  rintro e w' ⟨A, c, rfl, ho, hb⟩
  go_wp2_with fail
  go_ret
  exact ⟨A, c, rfl, ho, hb⟩
theorem rmust_int (v : Int) (k n : Nat) (w : World) (hv : v = (k : Int)) (h1 : 1 ≤ n) (h2 : n ≤ 8) (hk : k < 256 ^ n) :
    Calls Try.prog 26 #[.int .u64 v, .int .i64 n] w fun e w' => ∃ A c, e = .returned (.slice A n c) ∧ Bs w' A n c (be n k) ∧ Below w.heap.size w w' := by
  subst hv
  refine (rmust_any k n w h1 h2 hk).mono ?_
  rintro e w' ⟨A, c, rfl, ho, hb⟩
  rw [be_length] at ho ⊢
  exact ⟨A, c, rfl, ho.bs, hb⟩
theorem Box.field {w : World} {b : Nat} {xs : List Value} (h : Box w b xs) (i : Nat) {x : Value} (hx : xs[i]? = some x) : w.cell? ⟨b, i, none⟩ = some x := h.1 i x hx
/-- What stands in a header's variable. -/
def hdCells (h : Hd) (A : Option Addr) (n c : Nat) : List Value := [.bool h.pad, .bool h.ext, .bool h.mark, .int .i64 h.typ, .int .u16 h.seq, .int .u32 h.time, .int .u32 h.ssrc, .slice A n c]

def WriteI (w : World) (l : List Nat) (H : List UInt8) (bx : List Value) (B i : Value) (W : World) : Prop :=
  ∃ (k : Nat) (A : Option Addr) (c : Nat), k ≤ l.length ∧ i = .int .i64 k ∧ B = .slice A (12 + 4 * k) c ∧ Box W w.heap.size bx ∧ Below w.heap.size w W ∧ Own W (w.heap.size + 1) 5 A (12 + 4 * k) c (H ++ be4s (l.take k))

set_option maxRecDepth 100000 in
set_option maxHeartbeats 4000000 in
theorem rhwrite_any (p e m : Bool) (t : Int) (q ti ss : Nat) (A : Option Addr) (n c : Nat) (l : List Nat) (w : World) (hl : Us w A n c l) (hr : rightH ⟨p, e, m, t, q, ti, ss, l⟩ = true) (hf : fitsH ⟨p, e, m, t, q, ti, ss, l⟩) :
    Calls Try.prog 25 #[.agg #[.bool p, .bool e, .bool m, .int .i64 t, .int .u16 q, .int .u32 ti, .int .u32 ss, .slice A n c]] w (GivesB w 5 (headB ⟨p, e, m, t, q, ti, ss, l⟩)) := by
  unfold rightH at hr
  rw [decide_eq_true_eq] at hr
  obtain ⟨h0, h1, h2⟩ := hr
  obtain ⟨f1, f2, f3, f4⟩ := hf
  simp only at h0 h1 h2 f1 f2 f3 f4
  have hln := hl.len
  obtain ⟨hl1, hl2⟩ := hl.bounds
  obtain ⟨F, hF⟩ : ∃ F, F = firstB ⟨p, e, m, t, q, ti, ss, l⟩ := ⟨_, rfl⟩
  obtain ⟨S, hS⟩ : ∃ S, S = secondB ⟨p, e, m, t, q, ti, ss, l⟩ := ⟨_, rfl⟩
  obtain ⟨H, hH⟩ : ∃ H, H = [UInt8.ofNat F, UInt8.ofNat S] ++ be 2 q ++ be 4 ti ++ be 4 ss := ⟨_, rfl⟩
  have hres : headB ⟨p, e, m, t, q, ti, ss, l⟩ = H ++ be4s l := by rw [hH, hF, hS]; simp [headB]
  rw [hres]
  have HH := Lib.hid hH
  have hHl : Hid ((H ++ be4s l).length = 12 + 4 * l.length) := Lib.hid (by rw [← hres, headB_length])
  clear hH hres
  unfold firstB n1 at hF
  unfold secondB n1 at hS
  simp only at hF hS
  rw [hln] at hF
  obtain ⟨F1, hF1⟩ : ∃ F1, F1 = 128 + n + (if p = true then 32 else 0) := ⟨_, rfl⟩
  rw [← hF1] at hF
  have HF := Lib.hid hF
  have HF1 := Lib.hid hF1
  have HS := Lib.hid hS
  have hF2 : F < 192 ∧ 128 ≤ F := by rw [hF, hF1]; split <;> split <;> omega
  have hF12 : F1 < 192 := by rw [hF1]; split <;> omega
  have hS2 : S < 256 := by rw [hS]; split <;> omega
  clear hF hS hF1
  go_enter Try.func25, Try.ntmps25
  go_upto_if 12 with fail
  go_cut [3] (fun x W => x = .int .i64 (F1 : Nat) ∧ W = w.alloc (.cells #[.bool p, .bool e, .bool m, .int .i64 t, .int .u16 q, .int .u32 ti, .int .u32 ss, .slice A n c] 26))
  case first =>
    go_wp2_with fail
    all_goals
      go_meet
      refine ⟨by rw [HF1.out]; simp [*] <;> omega, by simp [*]⟩
  case rest =>
    obtain ⟨rfl, rfl⟩ := hcut
    go_upto_if 16 with fail
    go_cut [3] (fun x W => x = .int .i64 (F : Nat) ∧ W = w.alloc (.cells #[.bool p, .bool e, .bool m, .int .i64 t, .int .u16 q, .int .u32 ti, .int .u32 ss, .slice A n c] 26))
    case first =>
      go_wp2_with fail
      all_goals
        go_meet
        refine ⟨by rw [HF.out]; simp [*] <;> (unfold wrap64; omega), by simp [*]⟩
    case rest =>
      obtain ⟨rfl, rfl⟩ := hcut
      go_upto_if 22 with fail
      go_cut [4] (fun x W => x = .int .i64 (S : Nat) ∧ W = w.alloc (.cells #[.bool p, .bool e, .bool m, .int .i64 t, .int .u16 q, .int .u32 ti, .int .u32 ss, .slice A n c] 26))
      case first =>
        go_wp2_with fail
        all_goals
          go_meet
          refine ⟨by rw [HS.out]; simp [*] <;> omega, by simp [*]⟩
      case rest =>
        obtain ⟨rfl, rfl⟩ := hcut
        obtain ⟨bx, hbx⟩ : ∃ bx : List Value, bx = [.bool p, .bool e, .bool m, .int .i64 t, .int .u16 q, .int .u32 ti, .int .u32 ss, .slice A n c] := ⟨_, rfl⟩
        have k1 : Box (w.alloc (.cells #[.bool p, .bool e, .bool m, .int .i64 t, .int .u16 q, .int .u32 ti, .int .u32 ss, .slice A n c] 26)) w.heap.size bx := by rw [hbx]; exact Box.new w _ _
        have hbl := Lib.hid hbx
        have g4 : bx[4]? = some (.int .u16 q) := by rw [hbx]; rfl
        have g5 : bx[5]? = some (.int .u32 ti) := by rw [hbx]; rfl
        have g6 : bx[6]? = some (.int .u32 ss) := by rw [hbx]; rfl
        have g7 : bx[7]? = some (.slice A n c) := by rw [hbx]; rfl
        clear hbx
        have hB := below1 w (.cells #[.bool p, .bool e, .bool m, .int .i64 t, .int .u16 q, .int .u32 ti, .int .u32 ss, .slice A n c] 26)
        have hl1' := hl.alloc (.cells #[.bool p, .bool e, .bool m, .int .i64 t, .int .u16 q, .int .u32 ti, .int .u32 ss, .slice A n c] 26)
        go_wp2_with fail
        have hown := own_lit (w.alloc (.cells #[.bool p, .bool e, .bool m, .int .i64 t, .int .u16 q, .int .u32 ti, .int .u32 ss, .slice A n c] 26)) [UInt8.ofNat F, UInt8.ofNat S] #[.int .u8 F, .int .u8 S] 5 (w.heap.size + 1) (by simp) (by simp [byteV, toNat_ofNat (show F < 256 by omega), toNat_ofNat hS2]) (by simp [maxLen])
        rw [World.size_alloc] at hown
        replace k1 := k1.alloc (.cells #[.int .u8 F, .int .u8 S] 5)
        replace hB := hB.alloc (by simp) (.cells #[.int .u8 F, .int .u8 S] 5)
        have hl2' := hl1'.alloc (.cells #[.int .u8 F, .int .u8 S] 5)
        refine (rmust_int _ q 2 _ rfl (by omega) (by omega) (by simpa using f1)).mono ?_
        rintro x w2 ⟨A2, c2, rfl, hs2, hb⟩
        replace hown := hown.below hb
        replace k1 := k1.call hb
        replace hB := hB.trans (hb.mono (by have := hB.size; simpa using this))
        clear hl1' hl2'
        have hsz := hB.size
        go_wp2_with (at_builtin; go_loud (refine wpList_app _ rfl (.tmp 30) (.tmp 34) 27 rfl (w.heap.size + 1) 5 Try.underlying27 byte_info _ 2 2 _ rfl hown A2 2 c2 (be 2 q) rfl hs2 (by omega) (by have := k1.2.2; omega) ?_); intro A3 c3 w3 hown3 hb3; replace k1 := k1.below hb3 (Nat.lt_succ_self _); replace hB := hB.trans (hb3.mono (Nat.le_succ _)); have c5 := k1.field 5 g5)
        refine (rmust_int _ ti 4 _ rfl (by omega) (by omega) (by simpa using f2)).mono ?_
        rintro x w4 ⟨A4, c4, rfl, hs4, hb⟩
        replace hown3 := hown3.below hb
        replace k1 := k1.call hb
        replace hB := hB.trans (hb.mono hB.size)
        clear hown hs2 hb3 c5
        go_wp2_with (at_builtin; go_loud (refine wpList_app _ rfl (.tmp 36) (.tmp 40) 27 rfl (w.heap.size + 1) 5 Try.underlying27 byte_info _ 4 c3 _ rfl hown3 A4 4 c4 (be 4 ti) rfl hs4 (by omega) (by have := k1.2.2; omega) ?_); intro A5 c5 w5 hown5 hb5; replace k1 := k1.below hb5 (Nat.lt_succ_self _); replace hB := hB.trans (hb5.mono (Nat.le_succ _)); have cc := k1.field 6 g6)
        refine (rmust_int _ ss 4 _ rfl (by omega) (by omega) (by simpa using f3)).mono ?_
        rintro x w6 ⟨A6, c6, rfl, hs6, hb⟩
        replace hown5 := hown5.below hb
        replace k1 := k1.call hb
        replace hB := hB.trans (hb.mono hB.size)
        clear hown3 hs4 hb5 cc
        go_wp2_with (at_builtin; go_loud (refine wpList_app _ rfl (.tmp 42) (.tmp 46) 27 rfl (w.heap.size + 1) 5 Try.underlying27 byte_info _ 8 c5 _ rfl hown5 A6 4 c6 (be 4 ss) rfl hs6 (by omega) (by have := k1.2.2; omega) ?_); intro A7 c7 w7 hown7 hb7; replace k1 := k1.below hb7 (Nat.lt_succ_self _); replace hB := hB.trans (hb7.mono (Nat.le_succ _)))
        rw [← HH.out] at hown7
        clear hown5 hs6 hb7 g4 g5 g6
        go_loopw [5, 6] (fun B i W => WriteI w l H bx B i W) (fun _ i _ => n - (intOf i).toNat)
        case atStart => exact ⟨0, A7, c7, Nat.zero_le _, rfl, rfl, k1, hB, by simpa [be4s] using hown7⟩
        case round =>
          obtain ⟨k, Ak, ck, hk, rfl, rfl, kb, hBk, hok⟩ := hrel
          have hlk := hl.below hBk
          have c7 := kb.field 7 g7
          have hsz := hBk.size
          clear k1 hB hown7
          by_cases hkl : k < l.length
          · obtain ⟨b, o, rfl, _, hc⟩ := hlk.at_ (by omega)
            have hck := hc k hkl
            have hx4 := f4 _ (List.getElem_mem hkl)
            have hts := Lib.hid (be4s_snoc (l.take k) l[k])
            have htk := Lib.hid (List.take_succ_eq_append_getElem hkl)
            have hkn : (k : Int) < n := by omega
            generalize l[k] = x at *
            clear hc
            go_wp2_with fail
            refine (rmust_int _ x 4 _ rfl (by omega) (by omega) (by simpa using hx4)).mono ?_
            rintro z w8 ⟨A8, c8, rfl, hs8, hb⟩
            replace hok := hok.below hb
            replace kb := kb.call hb
            replace hBk := hBk.trans (hb.mono hBk.size)
            clear c7 hck hlk
            go_wp2_with (at_builtin; go_loud (refine wpList_app _ rfl (.tmp 55) (.tmp 62) 27 rfl (w.heap.size + 1) 5 Try.underlying27 byte_info _ (12 + 4 * k) ck _ rfl hok A8 4 c8 (be 4 x) rfl hs8 (by omega) (by have := kb.2.2; omega) ?_); intro A9 c9 w9 hown9 hb9; replace kb := kb.below hb9 (Nat.lt_succ_self _); replace hBk := hBk.trans (hb9.mono (Nat.le_succ _)))
            go_roundw
            case rel => exact ⟨k + 1, A9, c9, by omega, by go_num, by rw [show 12 + 4 * (k + 1) = 12 + 4 * k + 4 by omega], kb, hBk, by rw [htk.out, hts.out, ← List.append_assoc]; exact hown9⟩
            case measure => simp [intOf]; omega
          · obtain rfl : k = l.length := by omega
            rw [List.take_length] at hok
            have hkn : ¬ (l.length : Int) < n := by omega
            go_wp2
            go_ret
            exact ⟨Ak, ck, by rw [hHl.out, hln]; rfl, by rw [hHl.out]; exact hok.mono (Nat.le_succ _), hBk⟩

end Go.Proofs.Ytbalpndgpdbcbaa

/-
  PacketBack, walked under the contracts of package packet's calls. (Written by gen_PackBackW.py.)
-/
import Derived.Test.YtbalpndgpdbcbaaPackRightW
import Derived.Test.YtbalpndgpdbcbaaReg
namespace Go.Proofs.Ytbalpndgpdbcbaa
open Go.RowKit
set_option linter.unusedVariables false
set_option linter.unusedSimpArgs false

section
variable (KC : PackCalls)
include KC
set_option maxRecDepth 100000 in
set_option maxHeartbeats 1000000 in
theorem packetBack_big (p : Pk) (A : Option Addr) (n c : Nat) (B : Option Addr) (lb cb : Nat) (C : Option Addr) (lc cc : Nat) (D : Option Addr) (ld cd : Nat) (w : World) (h : PkIn w p A n c B lb cb C lc cc) (hd : ld ≤ 9223372036854775807) (hb : shortP p = false ∨ 70000 < ld) :
    Calls Try.prog 4 #[pkV p A n c B lb cb C lc cc, .slice D ld cd] w fun e w' => e = .returned (.bool true) ∧ Below w.heap.size w w' := by
  obtain ⟨b, hsb⟩ : ∃ b, shortP p = b := ⟨_, rfl⟩
  rw [hsb] at hb
  have Hb := Lib.hid hb
  clear hb
  unfold pkV
  have k1 := Box.new w [.bool p.hd.pad, .bool p.hd.ext, .bool p.hd.mark, .int .i64 p.hd.typ, .int .u16 p.hd.seq, .int .u32 p.hd.time, .int .u32 p.hd.ssrc, .slice A n c, .int .u16 p.prof, .slice B lb cb, .slice C lc cc, .int .i64 p.pad] 29
  have h1 := h.alloc (.cells #[.bool p.hd.pad, .bool p.hd.ext, .bool p.hd.mark, .int .i64 p.hd.typ, .int .u16 p.hd.seq, .int .u32 p.hd.time, .int .u32 p.hd.ssrc, .slice A n c, .int .u16 p.prof, .slice B lb cb, .slice C lc cc, .int .i64 p.pad] 29)
  have hB := below1 w (.cells #[.bool p.hd.pad, .bool p.hd.ext, .bool p.hd.mark, .int .i64 p.hd.typ, .int .u16 p.hd.seq, .int .u32 p.hd.time, .int .u32 p.hd.ssrc, .slice A n c, .int .u16 p.prof, .slice B lb cb, .slice C lc cc, .int .i64 p.pad] 29)
  go_enter Try.func4, Try.ntmps4
  go_wp2_with fail
  refine (awake_any KC _).mono ?_
  rintro e w2 ⟨rfl, hb⟩
  replace k1 := k1.call hb
  replace h1 := h1.below hb
  replace hB := hB.trans (hb.mono hB.size)
  clear hb
  have f1 := k1.all12.1
  go_wp2_with fail
  refine (rshort_told p A n c B lb cb C lc cc _ h1 b hsb).mono ?_
  rintro e w3 ⟨rfl, hb⟩
  replace hB := hB.trans (hb.mono hB.size)
  clear f1
  cases b with
  | false =>
    go_wp2_with fail
    go_ret
    exact ⟨rfl, hB⟩
  | true =>
    have h7 : 70000 < ld := by rcases Hb.out with h | h <;> first | omega | cases h
    go_wp2_with fail
    go_ret
    exact ⟨rfl, hB⟩

set_option maxRecDepth 100000 in
set_option maxHeartbeats 4000000 in
theorem packetBack_pn_e (p : Pk) (A : Option Addr) (n c : Nat) (B : Option Addr) (lb cb : Nat) (C : Option Addr) (lc cc : Nat) (D : Option Addr) (ld cd : Nat) (s : List UInt8) (w : World) (h : PkIn w p A n c B lb cb C lc cc) (hs : Bs w D ld cd s) (hn : n ≤ 99) (hlb : lb ≤ 300000) (hlc : lc ≤ 70000) (hld : ld ≤ 70000) (hf : fitsP p) (ht : (Lit.int .i64 p.hd.typ).wf = true) (hp : (Lit.int .i64 p.pad).wf = true) (hr : rightP p = false) (he : ¬ pErr s = 0) :
    Calls Try.prog 4 #[pkV p A n c B lb cb C lc cc, .slice D ld cd] w fun e w' => e = .returned (.bool true) ∧ Below w.heap.size w w' := by
  have hok := Lib.hid (fun (W : World) (h : PkIn W p A n c B lb cb C lc cc) => (⟨h, by omega, by omega, by omega, hf, ht, hp⟩ : PkOk W p A n c B lb cb C lc cc))
  have hsh : shortP p = true := by unfold shortP; rw [decide_eq_true_eq, h.us.len, h.ext.len, h.pay.len]; omega
  obtain ⟨hX, hE, _⟩ := writeP_no (room := 65535) hr
  have HX := Lib.hid hX
  have HE := Lib.hid hE
  have hpr := Lib.hid hr
  clear hX hE hr
  have hrd : readP s = zeroP := if_neg he
  have hcn : canonP s = false := decide_eq_false fun h => he h.1
  have hne : ((pErr s : Int) != 0) = true := by rw [bne_iff_ne]; omega
  obtain ⟨er, her⟩ : ∃ er, pErr s = er := ⟨_, rfl⟩
  rw [her] at hne
  clear he
  unfold pkV
  have k1 := Box.new w [.bool p.hd.pad, .bool p.hd.ext, .bool p.hd.mark, .int .i64 p.hd.typ, .int .u16 p.hd.seq, .int .u32 p.hd.time, .int .u32 p.hd.ssrc, .slice A n c, .int .u16 p.prof, .slice B lb cb, .slice C lc cc, .int .i64 p.pad] 29
  have h1 := h.alloc (.cells #[.bool p.hd.pad, .bool p.hd.ext, .bool p.hd.mark, .int .i64 p.hd.typ, .int .u16 p.hd.seq, .int .u32 p.hd.time, .int .u32 p.hd.ssrc, .slice A n c, .int .u16 p.prof, .slice B lb cb, .slice C lc cc, .int .i64 p.pad] 29)
  have hs1 := hs.alloc (.cells #[.bool p.hd.pad, .bool p.hd.ext, .bool p.hd.mark, .int .i64 p.hd.typ, .int .u16 p.hd.seq, .int .u32 p.hd.time, .int .u32 p.hd.ssrc, .slice A n c, .int .u16 p.prof, .slice B lb cb, .slice C lc cc, .int .i64 p.pad] 29)
  have hB := below1 w (.cells #[.bool p.hd.pad, .bool p.hd.ext, .bool p.hd.mark, .int .i64 p.hd.typ, .int .u16 p.hd.seq, .int .u32 p.hd.time, .int .u32 p.hd.ssrc, .slice A n c, .int .u16 p.prof, .slice B lb cb, .slice C lc cc, .int .i64 p.pad] 29)
  go_enter Try.func4, Try.ntmps4
  go_wp2_with fail
  refine (awake_any KC _).mono ?_
  rintro e w2 ⟨rfl, hb⟩
  replace h1 := h1.below hb
  replace hs1 := hs1.below hb
  replace k1 := k1.call hb
  replace hB := hB.trans (hb.mono hB.size)
  clear hb
  have fk1 := k1.all12.1
  go_wp2_with fail
  refine (rshort_told p A n c B lb cb C lc cc _ h1 true hsh).mono ?_
  rintro e w3 ⟨rfl, hb⟩
  clear fk1
  replace h1 := h1.below hb
  replace hs1 := hs1.below hb
  replace k1 := k1.call hb
  replace hB := hB.trans (hb.mono hB.size)
  clear hb
  have fk1 := k1.all12.1
  go_wp2_with fail
  refine (write_told KC p A n c B lb cb C lc cc 65535 _ (hok.out _ h1) (by decide) [] 0 1 HX.out rfl HE.out).mono ?_
  rintro e w4 ⟨A4, c4, rfl, hx, hb⟩
  clear fk1
  replace h1 := h1.below hb
  replace hs1 := hs1.below hb
  replace k1 := k1.call hb
  replace hB := hB.trans (hb.mono hB.size)
  clear hb
  have fk1 := k1.all12.1
  go_wp2_with fail
  refine (right_told KC p A n c B lb cb C lc cc _ (hok.out _ h1) false hpr.out).mono ?_
  rintro e w5 ⟨rfl, hb⟩
  clear fk1
  replace h1 := h1.below hb
  replace hs1 := hs1.below hb
  replace k1 := k1.call hb
  replace hx := hx.below hb
  replace hB := hB.trans (hb.mono hB.size)
  clear hb
  have fk1 := k1.all12.1
  go_wp2_with fail
  refine (KC.read D ld cd s _ hs1 (by omega)).mono ?_
  rintro e w9 ⟨A9, a9, B9, b9, C9, c9, rfl, hq, hb⟩
  rw [hrd] at hq ⊢
  rw [her]
  dsimp only [pkV, zeroP, zeroH, List.length_nil]
  clear fk1
  replace h1 := h1.below hb
  replace hs1 := hs1.below hb
  replace k1 := k1.call hb
  replace hx := hx.below hb
  replace hB := hB.trans (hb.mono hB.size)
  clear hb
  have k9 := Box.new w9 [.bool false, .bool false, .bool false, .int .i64 0, .int .u16 0, .int .u32 0, .int .u32 0, .slice A9 0 a9, .int .u16 0, .slice B9 0 b9, .slice C9 0 c9, .int .i64 0] 29
  replace h1 := h1.alloc (.cells #[.bool false, .bool false, .bool false, .int .i64 0, .int .u16 0, .int .u32 0, .int .u32 0, .slice A9 0 a9, .int .u16 0, .slice B9 0 b9, .slice C9 0 c9, .int .i64 0] 29)
  replace hs1 := hs1.alloc (.cells #[.bool false, .bool false, .bool false, .int .i64 0, .int .u16 0, .int .u32 0, .int .u32 0, .slice A9 0 a9, .int .u16 0, .slice B9 0 b9, .slice C9 0 c9, .int .i64 0] 29)
  replace k1 := k1.alloc (.cells #[.bool false, .bool false, .bool false, .int .i64 0, .int .u16 0, .int .u32 0, .int .u32 0, .slice A9 0 a9, .int .u16 0, .slice B9 0 b9, .slice C9 0 c9, .int .i64 0] 29)
  replace hx := hx.alloc (.cells #[.bool false, .bool false, .bool false, .int .i64 0, .int .u16 0, .int .u32 0, .int .u32 0, .slice A9 0 a9, .int .u16 0, .slice B9 0 b9, .slice C9 0 c9, .int .i64 0] 29)
  replace hq := hq.alloc (.cells #[.bool false, .bool false, .bool false, .int .i64 0, .int .u16 0, .int .u32 0, .int .u32 0, .slice A9 0 a9, .int .u16 0, .slice B9 0 b9, .slice C9 0 c9, .int .i64 0] 29)
  replace hB := hB.alloc hB.size (.cells #[.bool false, .bool false, .bool false, .int .i64 0, .int .u16 0, .int .u32 0, .int .u32 0, .slice A9 0 a9, .int .u16 0, .slice B9 0 b9, .slice C9 0 c9, .int .i64 0] 29)
  have fk1 := k1.all12.1
  have fk9 := k9.all12.1
  go_wp2_with fail
  refine (canon_told KC D ld cd s _ hs1 (by omega) false hcn).mono ?_
  rintro e w10 ⟨rfl, hb⟩
  clear fk1
  clear fk9
  replace h1 := h1.below hb
  replace hs1 := hs1.below hb
  replace k1 := k1.call hb
  replace hx := hx.below hb
  replace hq := hq.below hb
  replace k9 := k9.call hb
  replace hB := hB.trans (hb.mono hB.size)
  clear hb
  have fk1 := k1.all12.1
  have fk9 := k9.all12.1
  go_wp2_with fail
  refine (rsameP_told zeroP A9 0 a9 B9 0 b9 C9 0 c9 zeroP none 0 0 none 0 0 none 0 0 _ hq (PkIn.zero _) true (decide_eq_true rfl)).mono ?_
  rintro e w11 ⟨rfl, hb⟩
  clear fk1
  clear fk9
  replace h1 := h1.below hb
  replace hs1 := hs1.below hb
  replace k1 := k1.call hb
  replace hx := hx.below hb
  replace hq := hq.below hb
  replace k9 := k9.call hb
  replace hB := hB.trans (hb.mono hB.size)
  clear hb
  have fk1 := k1.all12.1
  have fk9 := k9.all12.1
  go_wp2_with fail
  go_ret
  exact ⟨rfl, hB⟩

set_option maxRecDepth 100000 in
set_option maxHeartbeats 4000000 in
theorem packetBack_pn_c (p : Pk) (A : Option Addr) (n c : Nat) (B : Option Addr) (lb cb : Nat) (C : Option Addr) (lc cc : Nat) (D : Option Addr) (ld cd : Nat) (s : List UInt8) (w : World) (h : PkIn w p A n c B lb cb C lc cc) (hs : Bs w D ld cd s) (hn : n ≤ 99) (hlb : lb ≤ 300000) (hlc : lc ≤ 70000) (hld : ld ≤ 70000) (hf : fitsP p) (ht : (Lit.int .i64 p.hd.typ).wf = true) (hp : (Lit.int .i64 p.pad).wf = true) (hr : rightP p = false) (he : pErr s = 0) :
    Calls Try.prog 4 #[pkV p A n c B lb cb C lc cc, .slice D ld cd] w fun e w' => e = .returned (.bool true) ∧ Below w.heap.size w w' := by
  have hok := Lib.hid (fun (W : World) (h : PkIn W p A n c B lb cb C lc cc) => (⟨h, by omega, by omega, by omega, hf, ht, hp⟩ : PkOk W p A n c B lb cb C lc cc))
  have hsh : shortP p = true := by unfold shortP; rw [decide_eq_true_eq, h.us.len, h.ext.len, h.pay.len]; omega
  obtain ⟨hX, hE, _⟩ := writeP_no (room := 65535) hr
  have HX := Lib.hid hX
  have HE := Lib.hid hE
  have hpr := Lib.hid hr
  clear hX hE hr
  obtain ⟨pr1, pf1⟩ := packOf_right he
  have hsz := packOf_size he
  rw [← readP_of he] at pr1 pf1 hsz
  rw [hs.len] at hsz
  obtain ⟨rd1, rd2⟩ := read_pack pr1 pf1
  have hcn : canonP s = (packB (readP s) == s) := by
    unfold canonP
    rw [Bool.eq_iff_iff, decide_eq_true_eq, beq_iff_eq]
    exact ⟨fun h => h.2, fun h => ⟨he, h⟩⟩
  obtain ⟨yl1, yl2⟩ := packB_length_nat pr1
  have yl : (packB (readP s)).length = ld := by omega
  obtain ⟨wX, wE, _⟩ := writeP_yes (room := (ld : Int)) pr1 (by omega)
  have hok9 : Hid (∀ (W : World) (A9 B9 C9 : Option Addr) (a9 b9 c9 : Nat), PkIn W (readP s) A9 (readP s).hd.csrc.length a9 B9 (readP s).ext.length b9 C9 (readP s).pay.length c9 → PkOk W (readP s) A9 (readP s).hd.csrc.length a9 B9 (readP s).ext.length b9 C9 (readP s).pay.length c9) := Lib.hid (by
    obtain ⟨q1, q2, q3, q4, q5, q6, q7, q8⟩ := rightP_parts pr1
    unfold rightH at q1
    rw [decide_eq_true_eq] at q1
    have e1 : 0 ≤ (readP s).pad ∧ (readP s).pad ≤ 255 := by
      cases hq : (readP s).hd.pad
      · rw [q7 hq]; omega
      · have := q6 hq; omega
    have m1 : IntKind.i64.min = -9223372036854775808 := rfl
    have m2 : IntKind.i64.max = 9223372036854775807 := rfl
    exact fun W A9 B9 C9 a9 b9 c9 h => ⟨h, by omega, by omega, by omega, pf1, by simp only [Lit.wf, Bool.and_eq_true, decide_eq_true_eq]; omega, by simp only [Lit.wf, Bool.and_eq_true, decide_eq_true_eq]; omega⟩)
  have her := he
  generalize hY : packB (readP s) = Y at *
  generalize hrr : readP s = r at *
  have HW := Lib.hid (And.intro wX wE)
  have HRD2 := Lib.hid (And.intro rd1 rd2)
  have HR9 := Lib.hid pr1
  have hld2 : ld ≤ 65535 := by rw [← yl]; exact yl2
  have HYL := Lib.hid yl
  obtain ⟨cn, hcn2⟩ : ∃ cn, canonP s = cn := ⟨_, rfl⟩
  rw [hcn2] at hcn
  have hcq : ((Y : List UInt8) == s) = cn := hcn.symm
  have hws : (Lit.int .i64 (ld : Int)).wf = true := by
    have m1 : IntKind.i64.min = -9223372036854775808 := rfl
    have m2 : IntKind.i64.max = 9223372036854775807 := rfl
    simp only [Lit.wf, Bool.and_eq_true, decide_eq_true_eq]; omega
  clear he yl hY hcn wX wE rd1 rd2 pr1 pf1 hsz yl1 yl2
  unfold pkV
  have k1 := Box.new w [.bool p.hd.pad, .bool p.hd.ext, .bool p.hd.mark, .int .i64 p.hd.typ, .int .u16 p.hd.seq, .int .u32 p.hd.time, .int .u32 p.hd.ssrc, .slice A n c, .int .u16 p.prof, .slice B lb cb, .slice C lc cc, .int .i64 p.pad] 29
  have h1 := h.alloc (.cells #[.bool p.hd.pad, .bool p.hd.ext, .bool p.hd.mark, .int .i64 p.hd.typ, .int .u16 p.hd.seq, .int .u32 p.hd.time, .int .u32 p.hd.ssrc, .slice A n c, .int .u16 p.prof, .slice B lb cb, .slice C lc cc, .int .i64 p.pad] 29)
  have hs1 := hs.alloc (.cells #[.bool p.hd.pad, .bool p.hd.ext, .bool p.hd.mark, .int .i64 p.hd.typ, .int .u16 p.hd.seq, .int .u32 p.hd.time, .int .u32 p.hd.ssrc, .slice A n c, .int .u16 p.prof, .slice B lb cb, .slice C lc cc, .int .i64 p.pad] 29)
  have hB := below1 w (.cells #[.bool p.hd.pad, .bool p.hd.ext, .bool p.hd.mark, .int .i64 p.hd.typ, .int .u16 p.hd.seq, .int .u32 p.hd.time, .int .u32 p.hd.ssrc, .slice A n c, .int .u16 p.prof, .slice B lb cb, .slice C lc cc, .int .i64 p.pad] 29)
  go_enter Try.func4, Try.ntmps4
  go_wp2_with fail
  refine (awake_any KC _).mono ?_
  rintro e w2 ⟨rfl, hb⟩
  replace h1 := h1.below hb
  replace hs1 := hs1.below hb
  replace k1 := k1.call hb
  replace hB := hB.trans (hb.mono hB.size)
  clear hb
  have fk1 := k1.all12.1
  go_wp2_with fail
  refine (rshort_told p A n c B lb cb C lc cc _ h1 true hsh).mono ?_
  rintro e w3 ⟨rfl, hb⟩
  clear fk1
  replace h1 := h1.below hb
  replace hs1 := hs1.below hb
  replace k1 := k1.call hb
  replace hB := hB.trans (hb.mono hB.size)
  clear hb
  have fk1 := k1.all12.1
  go_wp2_with fail
  refine (write_told KC p A n c B lb cb C lc cc 65535 _ (hok.out _ h1) (by decide) [] 0 1 HX.out rfl HE.out).mono ?_
  rintro e w4 ⟨A4, c4, rfl, hx, hb⟩
  clear fk1
  replace h1 := h1.below hb
  replace hs1 := hs1.below hb
  replace k1 := k1.call hb
  replace hB := hB.trans (hb.mono hB.size)
  clear hb
  have fk1 := k1.all12.1
  go_wp2_with fail
  refine (right_told KC p A n c B lb cb C lc cc _ (hok.out _ h1) false hpr.out).mono ?_
  rintro e w5 ⟨rfl, hb⟩
  clear fk1
  replace h1 := h1.below hb
  replace hs1 := hs1.below hb
  replace k1 := k1.call hb
  replace hx := hx.below hb
  replace hB := hB.trans (hb.mono hB.size)
  clear hb
  have fk1 := k1.all12.1
  go_wp2_with fail
  refine (KC.read D ld cd s _ hs1 (by omega)).mono ?_
  rintro e w9 ⟨A9, a9, B9, b9, C9, c9, rfl, hq, hb⟩
  rw [hrr] at hq ⊢
  rw [her]
  dsimp only [pkV]
  clear fk1
  replace h1 := h1.below hb
  replace hs1 := hs1.below hb
  replace k1 := k1.call hb
  replace hx := hx.below hb
  replace hB := hB.trans (hb.mono hB.size)
  clear hb
  have k9 := Box.new w9 [.bool r.hd.pad, .bool r.hd.ext, .bool r.hd.mark, .int .i64 r.hd.typ, .int .u16 r.hd.seq, .int .u32 r.hd.time, .int .u32 r.hd.ssrc, .slice A9 r.hd.csrc.length a9, .int .u16 r.prof, .slice B9 r.ext.length b9, .slice C9 r.pay.length c9, .int .i64 r.pad] 29
  replace h1 := h1.alloc (.cells #[.bool r.hd.pad, .bool r.hd.ext, .bool r.hd.mark, .int .i64 r.hd.typ, .int .u16 r.hd.seq, .int .u32 r.hd.time, .int .u32 r.hd.ssrc, .slice A9 r.hd.csrc.length a9, .int .u16 r.prof, .slice B9 r.ext.length b9, .slice C9 r.pay.length c9, .int .i64 r.pad] 29)
  replace hs1 := hs1.alloc (.cells #[.bool r.hd.pad, .bool r.hd.ext, .bool r.hd.mark, .int .i64 r.hd.typ, .int .u16 r.hd.seq, .int .u32 r.hd.time, .int .u32 r.hd.ssrc, .slice A9 r.hd.csrc.length a9, .int .u16 r.prof, .slice B9 r.ext.length b9, .slice C9 r.pay.length c9, .int .i64 r.pad] 29)
  replace k1 := k1.alloc (.cells #[.bool r.hd.pad, .bool r.hd.ext, .bool r.hd.mark, .int .i64 r.hd.typ, .int .u16 r.hd.seq, .int .u32 r.hd.time, .int .u32 r.hd.ssrc, .slice A9 r.hd.csrc.length a9, .int .u16 r.prof, .slice B9 r.ext.length b9, .slice C9 r.pay.length c9, .int .i64 r.pad] 29)
  replace hx := hx.alloc (.cells #[.bool r.hd.pad, .bool r.hd.ext, .bool r.hd.mark, .int .i64 r.hd.typ, .int .u16 r.hd.seq, .int .u32 r.hd.time, .int .u32 r.hd.ssrc, .slice A9 r.hd.csrc.length a9, .int .u16 r.prof, .slice B9 r.ext.length b9, .slice C9 r.pay.length c9, .int .i64 r.pad] 29)
  replace hq := hq.alloc (.cells #[.bool r.hd.pad, .bool r.hd.ext, .bool r.hd.mark, .int .i64 r.hd.typ, .int .u16 r.hd.seq, .int .u32 r.hd.time, .int .u32 r.hd.ssrc, .slice A9 r.hd.csrc.length a9, .int .u16 r.prof, .slice B9 r.ext.length b9, .slice C9 r.pay.length c9, .int .i64 r.pad] 29)
  replace hB := hB.alloc hB.size (.cells #[.bool r.hd.pad, .bool r.hd.ext, .bool r.hd.mark, .int .i64 r.hd.typ, .int .u16 r.hd.seq, .int .u32 r.hd.time, .int .u32 r.hd.ssrc, .slice A9 r.hd.csrc.length a9, .int .u16 r.prof, .slice B9 r.ext.length b9, .slice C9 r.pay.length c9, .int .i64 r.pad] 29)
  have fk1 := k1.all12.1
  have fk9 := k9.all12.1
  go_wp2_with fail
  clear fk1
  clear fk9
  refine (write_told KC r A9 r.hd.csrc.length a9 B9 r.ext.length b9 C9 r.pay.length c9 (ld : Int) _ (hok9.out _ _ _ _ _ _ _ hq) hws Y ld 0 HW.out.1 HYL.out HW.out.2).mono ?_
  rintro e w10 ⟨A5, c5, rfl, hy, hb⟩
  replace h1 := h1.below hb
  replace hs1 := hs1.below hb
  replace k1 := k1.call hb
  replace hx := hx.below hb
  replace hq := hq.below hb
  replace k9 := k9.call hb
  replace hB := hB.trans (hb.mono hB.size)
  clear hb
  have fk1 := k1.all12.1
  have fk9 := k9.all12.1
  go_upto_region 16 with fail
  go_cut [109] (fun q W => q = .bool false ∧ Below w10.heap.size w10 W)
  case first =>
    refine wp_region_held_drew (S := (fun W => (convert 27 9 (.slice A5 ld c5)).run Try.prog W = .ok (.string ⟨Y.toArray⟩) W ∧ (convert 27 9 (.slice D ld cd)).run Try.prog W = .ok (.string ⟨s.toArray⟩) W ∧ W.cell? ⟨w9.heap.size, 0, none⟩ = some (.bool r.hd.pad) ∧ W.cell? ⟨w9.heap.size, 1, none⟩ = some (.bool r.hd.ext) ∧ W.cell? ⟨w9.heap.size, 2, none⟩ = some (.bool r.hd.mark) ∧ W.cell? ⟨w9.heap.size, 3, none⟩ = some (.int .i64 r.hd.typ) ∧ W.cell? ⟨w9.heap.size, 4, none⟩ = some (.int .u16 r.hd.seq) ∧ W.cell? ⟨w9.heap.size, 5, none⟩ = some (.int .u32 r.hd.time) ∧ W.cell? ⟨w9.heap.size, 6, none⟩ = some (.int .u32 r.hd.ssrc) ∧ W.cell? ⟨w9.heap.size, 7, none⟩ = some (.slice A9 r.hd.csrc.length a9) ∧ W.cell? ⟨w9.heap.size, 8, none⟩ = some (.int .u16 r.prof) ∧ W.cell? ⟨w9.heap.size, 9, none⟩ = some (.slice B9 r.ext.length b9) ∧ W.cell? ⟨w9.heap.size, 10, none⟩ = some (.slice C9 r.pay.length c9) ∧ W.cell? ⟨w9.heap.size, 11, none⟩ = some (.int .i64 r.pad))) (by kernel_rfl) ⟨str_of hy.drew, str_of hs1.drew, fk9⟩ (fun hHeld => ?_)
    clear fk9 fk1
    refine wpAnyH_take (i := 0) (v := ?vB0) rfl (by kernel_rfl) (by kernel_rfl) (by kernel_rfl) (fun _ _ _ h => h) (Or.inl ⟨by rfl, ?hB0⟩) (by assumption) ?rB0
    case hB0 => (intro w hSw; (try dsimp only at hSw); go_simp; try with_reducible rfl)
    change wpAnyH _ _ _ _ _ _ _ (Act.put _ (some 86) _) _
    simp only [Act.put, List.setIfInBounds_toArray, List.set_cons_zero, List.set_cons_succ]
    refine wpAnyH_take (i := 1) (v := ?vB1) rfl (by kernel_rfl) (by kernel_rfl) (by kernel_rfl) (fun _ _ _ h => h) (Or.inl ⟨by rfl, ?hB1⟩) (by assumption) ?rB1
    case hB1 => (intro w hSw; (try dsimp only at hSw); go_simp; try with_reducible rfl)
    change wpAnyH _ _ _ _ _ _ _ (Act.put _ (some 87) _) _
    simp only [Act.put, List.setIfInBounds_toArray, List.set_cons_zero, List.set_cons_succ]
    refine wpAnyH_take (i := 2) (v := ?vB2) rfl (by kernel_rfl) (by kernel_rfl) (by kernel_rfl) (fun _ _ _ h => h) (Or.inl ⟨by rfl, ?hB2⟩) (by assumption) ?rB2
    case hB2 => (intro w hSw; (try dsimp only at hSw); go_simp; try with_reducible rfl)
    change wpAnyH _ _ _ _ _ _ _ (Act.put _ (some 88) _) _
    simp only [Act.put, List.setIfInBounds_toArray, List.set_cons_zero, List.set_cons_succ]
    refine wpAnyH_take (i := 3) (v := ?vB3) rfl (by kernel_rfl) (by kernel_rfl) (by kernel_rfl) (fun _ _ _ h => h) (Or.inl ⟨by rfl, ?hB3⟩) (by assumption) ?rB3
    case hB3 => (intro w hSw; (try dsimp only at hSw); go_simp; try with_reducible rfl)
    change wpAnyH _ _ _ _ _ _ _ (Act.put _ (some 89) _) _
    simp only [Act.put, List.setIfInBounds_toArray, List.set_cons_zero, List.set_cons_succ]
    refine wpAnyH_ready (rs := [4]) (by kernel_rfl) (by simp) ?_
    refine AllReadyH.cons rfl (fun K hK => ?_) AllReadyH.nil
    go_simp
    refine (right_told KC r A9 r.hd.csrc.length a9 B9 r.ext.length b9 C9 r.pay.length c9 _ (hok9.out _ _ _ _ _ _ _ hq.drew) true HR9.out).mono ?_
    rintro e wa ⟨rfl, hba⟩
    go_wp2_with fail
    have ya := Bs.below (w := w10.drew) hy hba
    have sa := Bs.below (w := w10.drew) hs1 hba
    have ka := Box.call (w := w10.drew) k9 hba
    refine hK.out _ _ ?_ (fun hHeld => ?_)
    · exact ⟨str_of ya, str_of sa, ka.all12.1⟩
    clear hK K
    try simp only [Act.put, List.setIfInBounds_toArray, List.set_cons_zero, List.set_cons_succ]
    refine wpAnyH_take (i := 5) (v := ?vB5) rfl (by kernel_rfl) (by kernel_rfl) (by kernel_rfl) (fun _ _ _ h => h) (Or.inl ⟨by rfl, ?hB5⟩) (by assumption) ?rB5
    case hB5 => (intro w hSw; (try dsimp only at hSw); go_simp; try with_reducible rfl)
    change wpAnyH _ _ _ _ _ _ _ (Act.put _ (some 91) _) _
    simp only [Act.put, List.setIfInBounds_toArray, List.set_cons_zero, List.set_cons_succ]
    refine wpAnyH_take (i := 6) (v := ?vB6) rfl (by kernel_rfl) (by kernel_rfl) (by kernel_rfl) (fun _ _ _ h => h) (Or.inl ⟨by rfl, ?hB6⟩) (by assumption) ?rB6
    case hB6 => (intro w hSw; (try dsimp only at hSw); go_simp; try with_reducible rfl)
    change wpAnyH _ _ _ _ _ _ _ (Act.put _ (some 92) _) _
    simp only [Act.put, List.setIfInBounds_toArray, List.set_cons_zero, List.set_cons_succ]
    refine wpAnyH_take (i := 7) (v := ?vB7) rfl (by kernel_rfl) (by kernel_rfl) (by kernel_rfl) (fun _ _ _ h => h) (Or.inl ⟨by rfl, ?hB7⟩) (by assumption) ?rB7
    case hB7 => (intro w hSw; (try dsimp only at hSw); go_simp; try with_reducible rfl)
    change wpAnyH _ _ _ _ _ _ _ (Act.put _ (some 93) _) _
    simp only [Act.put, List.setIfInBounds_toArray, List.set_cons_zero, List.set_cons_succ]
    refine wpAnyH_take (i := 8) (v := ?vB8) rfl (by kernel_rfl) (by kernel_rfl) (by kernel_rfl) (fun _ _ _ h => h) (Or.inl ⟨by rfl, ?hB8⟩) (by assumption) ?rB8
    case hB8 => (intro w hSw; (try dsimp only at hSw); go_simp; try with_reducible rfl)
    change wpAnyH _ _ _ _ _ _ _ (Act.put _ (some 94) _) _
    simp only [Act.put, List.setIfInBounds_toArray, List.set_cons_zero, List.set_cons_succ]
    refine wpAnyH_take (i := 9) (v := ?vB9) rfl (by kernel_rfl) (by kernel_rfl) (by kernel_rfl) (fun _ _ _ h => h) (Or.inl ⟨by rfl, ?hB9⟩) (by assumption) ?rB9
    case hB9 => (intro w hSw; (try dsimp only at hSw); go_simp; try with_reducible rfl)
    change wpAnyH _ _ _ _ _ _ _ (Act.put _ (some 95) _) _
    simp only [Act.put, List.setIfInBounds_toArray, List.set_cons_zero, List.set_cons_succ]
    refine wpAnyH_take (i := 10) (v := ?vB10) rfl (by kernel_rfl) (by kernel_rfl) (by kernel_rfl) (fun _ _ _ h => h) (Or.inl ⟨by rfl, ?hB10⟩) (by assumption) ?rB10
    case hB10 => (intro w hSw; (try dsimp only at hSw); go_simp; try with_reducible rfl)
    change wpAnyH _ _ _ _ _ _ _ (Act.put _ (some 96) _) _
    simp only [Act.put, List.setIfInBounds_toArray, List.set_cons_zero, List.set_cons_succ]
    refine wpAnyH_take (i := 11) (v := ?vB11) rfl (by kernel_rfl) (by kernel_rfl) (by kernel_rfl) (fun _ _ _ h => h) (Or.inl ⟨by rfl, ?hB11⟩) (by assumption) ?rB11
    case hB11 => (intro w hSw; (try dsimp only at hSw); go_simp; try with_reducible rfl)
    change wpAnyH _ _ _ _ _ _ _ (Act.put _ (some 97) _) _
    simp only [Act.put, List.setIfInBounds_toArray, List.set_cons_zero, List.set_cons_succ]
    refine wpAnyH_take (i := 12) (v := ?vB12) rfl (by kernel_rfl) (by kernel_rfl) (by kernel_rfl) (fun _ _ _ h => h) (Or.inl ⟨by rfl, ?hB12⟩) (by assumption) ?rB12
    case hB12 => (intro w hSw; (try dsimp only at hSw); go_simp; try with_reducible rfl)
    change wpAnyH _ _ _ _ _ _ _ (Act.put _ (some 98) _) _
    simp only [Act.put, List.setIfInBounds_toArray, List.set_cons_zero, List.set_cons_succ]
    refine wpAnyH_take (i := 13) (v := ?vB13) rfl (by kernel_rfl) (by kernel_rfl) (by kernel_rfl) (fun _ _ _ h => h) (Or.inl ⟨by rfl, ?hB13⟩) (by assumption) ?rB13
    case hB13 => (intro w hSw; (try dsimp only at hSw); go_simp; try with_reducible rfl)
    change wpAnyH _ _ _ _ _ _ _ (Act.put _ (some 99) _) _
    simp only [Act.put, List.setIfInBounds_toArray, List.set_cons_zero, List.set_cons_succ]
    refine wpAnyH_take (i := 14) (v := ?vB14) rfl (by kernel_rfl) (by kernel_rfl) (by kernel_rfl) (fun _ _ _ h => h) (Or.inl ⟨by rfl, ?hB14⟩) (by assumption) ?rB14
    case hB14 => (intro w hSw; (try dsimp only at hSw); go_simp; try with_reducible rfl)
    change wpAnyH _ _ _ _ _ _ _ (Act.put _ (some 100) _) _
    simp only [Act.put, List.setIfInBounds_toArray, List.set_cons_zero, List.set_cons_succ]
    refine wpAnyH_take (i := 15) (v := ?vB15) rfl (by kernel_rfl) (by kernel_rfl) (by kernel_rfl) (fun _ _ _ h => h) (Or.inl ⟨by rfl, ?hB15⟩) (by assumption) ?rB15
    case hB15 => (intro w hSw; (try dsimp only at hSw); go_simp; try with_reducible rfl)
    change wpAnyH _ _ _ _ _ _ _ (Act.put _ (some 101) _) _
    simp only [Act.put, List.setIfInBounds_toArray, List.set_cons_zero, List.set_cons_succ]
    refine wpAnyH_take (i := 17) (v := ?vB17) rfl (by kernel_rfl) (by kernel_rfl) (by kernel_rfl) (fun _ _ _ h => h) (Or.inl ⟨by rfl, ?hB17⟩) (by assumption) ?rB17
    case hB17 => (intro w hSw; (try dsimp only at hSw); go_simp; try with_reducible rfl)
    change wpAnyH _ _ _ _ _ _ _ (Act.put _ (some 103) _) _
    simp only [Act.put, List.setIfInBounds_toArray, List.set_cons_zero, List.set_cons_succ]
    refine wpAnyH_take (i := 18) (v := ?vB18) rfl (by kernel_rfl) (by kernel_rfl) (by kernel_rfl) (fun _ _ _ h => h) (Or.inl ⟨by rfl, ?hB18⟩) (by assumption) ?rB18
    case hB18 => (intro w hSw; (try dsimp only at hSw); go_simp; try with_reducible rfl)
    change wpAnyH _ _ _ _ _ _ _ (Act.put _ (some 104) _) _
    simp only [Act.put, List.setIfInBounds_toArray, List.set_cons_zero, List.set_cons_succ]
    refine wpAnyH_take (i := 19) (v := ?vB19) rfl (by kernel_rfl) (by kernel_rfl) (by kernel_rfl) (fun _ _ _ h => h) (Or.inl ⟨by rfl, ?hB19⟩) (by assumption) ?rB19
    case hB19 => (intro w hSw; (try dsimp only at hSw); go_simp; try with_reducible rfl)
    change wpAnyH _ _ _ _ _ _ _ (Act.put _ (some 105) _) _
    simp only [Act.put, List.setIfInBounds_toArray, List.set_cons_zero, List.set_cons_succ]
    refine wpAnyH_take (i := 20) (v := ?vB20) rfl (by kernel_rfl) (by kernel_rfl) (by kernel_rfl) (fun _ _ _ h => h) (Or.inl ⟨by rfl, ?hB20⟩) (by assumption) ?rB20
    case hB20 => (intro w hSw; (try dsimp only at hSw); go_simp; try with_reducible rfl)
    change wpAnyH _ _ _ _ _ _ _ (Act.put _ (some 106) _) _
    simp only [Act.put, List.setIfInBounds_toArray, List.set_cons_zero, List.set_cons_succ]
    refine wpAnyH_take (i := 21) (v := ?vB21) rfl (by kernel_rfl) (by kernel_rfl) (by kernel_rfl) (fun _ _ _ h => h) (Or.inl ⟨by rfl, ?hB21⟩) (by assumption) ?rB21
    case hB21 => (intro w hSw; (try dsimp only at hSw); go_simp; try with_reducible rfl)
    change wpAnyH _ _ _ _ _ _ _ (Act.put _ (some 107) _) _
    simp only [Act.put, List.setIfInBounds_toArray, List.set_cons_zero, List.set_cons_succ]
    refine wpAnyH_ready (rs := [16]) (by kernel_rfl) (by simp) ?_
    refine AllReadyH.cons rfl (fun K hK => ?_) AllReadyH.nil
    go_simp
    refine (canon_told KC D ld cd s _ sa (by omega) cn hcn2).mono ?_
    rintro e wb ⟨rfl, hbb⟩
    go_wp2_with fail
    refine hK.out _ _ ?_ (fun hHeld => ?_)
    · exact ⟨str_of (ya.below hbb), str_of (sa.below hbb), (ka.call hbb).all12.1⟩
    clear hK K
    try simp only [Act.put, List.setIfInBounds_toArray, List.set_cons_zero, List.set_cons_succ]
    refine wpAnyH_take (i := 22) (v := ?vB22) rfl (by kernel_rfl) (by kernel_rfl) (by kernel_rfl) (fun _ _ _ h => h) (Or.inl ⟨by rfl, ?hB22⟩) (by assumption) ?rB22
    case hB22 => (intro w hSw; (try dsimp only at hSw); go_simp; try with_reducible rfl)
    change wpAnyH _ _ _ _ _ _ _ (Act.put _ (some 108) _) _
    simp only [Act.put, List.setIfInBounds_toArray, List.set_cons_zero, List.set_cons_succ]
    refine wpAnyH_take (i := 23) (v := ?vB23) rfl (by kernel_rfl) (by kernel_rfl) (by kernel_rfl) (fun _ _ _ h => h) (Or.inl ⟨by rfl, ?hB23⟩) (by assumption) ?rB23
    case hB23 => (intro w hSw; (try dsimp only at hSw); go_simp; try with_reducible rfl)
    change wpAnyH _ _ _ _ _ _ _ (Act.put _ (some 109) _) _
    simp only [Act.put, List.setIfInBounds_toArray, List.set_cons_zero, List.set_cons_succ]
    refine wpAnyH_done (by kernel_rfl) ?_ _
    go_wp2_with fail
    go_meet
    exact ⟨rfl, (Below.refl _ w10).drew.trans (hba.trans (hbb.mono hba.size))⟩
  case rest =>
    obtain ⟨rfl, hb⟩ := hcut
    clear fk1
    clear fk9
    replace h1 := h1.below hb
    replace hs1 := hs1.below hb
    replace k1 := k1.call hb
    replace hx := hx.below hb
    replace hq := hq.below hb
    replace k9 := k9.call hb
    replace hy := hy.below hb
    replace hB := hB.trans (hb.mono hB.size)
    clear hb
    have fk1 := k1.all12.1
    have fk9 := k9.all12.1
    go_wp2_with fail
    refine (KC.read A5 ld c5 Y _ hy (by omega)).mono ?_
    rintro e w11 ⟨A7, a7, B7, b7, C7, c7, rfl, hv, hb⟩
    rw [HRD2.out.2] at hv ⊢
    rw [HRD2.out.1]
    clear fk1
    clear fk9
    replace h1 := h1.below hb
    replace hs1 := hs1.below hb
    replace k1 := k1.call hb
    replace hx := hx.below hb
    replace hq := hq.below hb
    replace k9 := k9.call hb
    replace hy := hy.below hb
    replace hB := hB.trans (hb.mono hB.size)
    clear hb
    have k7 := Box.new w11 [.bool r.hd.pad, .bool r.hd.ext, .bool r.hd.mark, .int .i64 r.hd.typ, .int .u16 r.hd.seq, .int .u32 r.hd.time, .int .u32 r.hd.ssrc, .slice A7 r.hd.csrc.length a7, .int .u16 r.prof, .slice B7 r.ext.length b7, .slice C7 r.pay.length c7, .int .i64 r.pad] 29
    dsimp only [pkV]
    replace h1 := h1.alloc (.cells #[.bool r.hd.pad, .bool r.hd.ext, .bool r.hd.mark, .int .i64 r.hd.typ, .int .u16 r.hd.seq, .int .u32 r.hd.time, .int .u32 r.hd.ssrc, .slice A7 r.hd.csrc.length a7, .int .u16 r.prof, .slice B7 r.ext.length b7, .slice C7 r.pay.length c7, .int .i64 r.pad] 29)
    replace hs1 := hs1.alloc (.cells #[.bool r.hd.pad, .bool r.hd.ext, .bool r.hd.mark, .int .i64 r.hd.typ, .int .u16 r.hd.seq, .int .u32 r.hd.time, .int .u32 r.hd.ssrc, .slice A7 r.hd.csrc.length a7, .int .u16 r.prof, .slice B7 r.ext.length b7, .slice C7 r.pay.length c7, .int .i64 r.pad] 29)
    replace k1 := k1.alloc (.cells #[.bool r.hd.pad, .bool r.hd.ext, .bool r.hd.mark, .int .i64 r.hd.typ, .int .u16 r.hd.seq, .int .u32 r.hd.time, .int .u32 r.hd.ssrc, .slice A7 r.hd.csrc.length a7, .int .u16 r.prof, .slice B7 r.ext.length b7, .slice C7 r.pay.length c7, .int .i64 r.pad] 29)
    replace hx := hx.alloc (.cells #[.bool r.hd.pad, .bool r.hd.ext, .bool r.hd.mark, .int .i64 r.hd.typ, .int .u16 r.hd.seq, .int .u32 r.hd.time, .int .u32 r.hd.ssrc, .slice A7 r.hd.csrc.length a7, .int .u16 r.prof, .slice B7 r.ext.length b7, .slice C7 r.pay.length c7, .int .i64 r.pad] 29)
    replace hq := hq.alloc (.cells #[.bool r.hd.pad, .bool r.hd.ext, .bool r.hd.mark, .int .i64 r.hd.typ, .int .u16 r.hd.seq, .int .u32 r.hd.time, .int .u32 r.hd.ssrc, .slice A7 r.hd.csrc.length a7, .int .u16 r.prof, .slice B7 r.ext.length b7, .slice C7 r.pay.length c7, .int .i64 r.pad] 29)
    replace k9 := k9.alloc (.cells #[.bool r.hd.pad, .bool r.hd.ext, .bool r.hd.mark, .int .i64 r.hd.typ, .int .u16 r.hd.seq, .int .u32 r.hd.time, .int .u32 r.hd.ssrc, .slice A7 r.hd.csrc.length a7, .int .u16 r.prof, .slice B7 r.ext.length b7, .slice C7 r.pay.length c7, .int .i64 r.pad] 29)
    replace hy := hy.alloc (.cells #[.bool r.hd.pad, .bool r.hd.ext, .bool r.hd.mark, .int .i64 r.hd.typ, .int .u16 r.hd.seq, .int .u32 r.hd.time, .int .u32 r.hd.ssrc, .slice A7 r.hd.csrc.length a7, .int .u16 r.prof, .slice B7 r.ext.length b7, .slice C7 r.pay.length c7, .int .i64 r.pad] 29)
    replace hv := hv.alloc (.cells #[.bool r.hd.pad, .bool r.hd.ext, .bool r.hd.mark, .int .i64 r.hd.typ, .int .u16 r.hd.seq, .int .u32 r.hd.time, .int .u32 r.hd.ssrc, .slice A7 r.hd.csrc.length a7, .int .u16 r.prof, .slice B7 r.ext.length b7, .slice C7 r.pay.length c7, .int .i64 r.pad] 29)
    replace hB := hB.alloc hB.size (.cells #[.bool r.hd.pad, .bool r.hd.ext, .bool r.hd.mark, .int .i64 r.hd.typ, .int .u16 r.hd.seq, .int .u32 r.hd.time, .int .u32 r.hd.ssrc, .slice A7 r.hd.csrc.length a7, .int .u16 r.prof, .slice B7 r.ext.length b7, .slice C7 r.pay.length c7, .int .i64 r.pad] 29)
    have fk1 := k1.all12.1
    have fk9 := k9.all12.1
    have fk7 := k7.all12.1
    go_wp2_with fail
    refine (rsameP_told r A9 r.hd.csrc.length a9 B9 r.ext.length b9 C9 r.pay.length c9 r A7 r.hd.csrc.length a7 B7 r.ext.length b7 C7 r.pay.length c7 _ hq hv true (decide_eq_true rfl)).mono ?_
    rintro e w12 ⟨rfl, hb⟩
    clear fk1
    clear fk9
    clear fk7
    replace h1 := h1.below hb
    replace hs1 := hs1.below hb
    replace k1 := k1.call hb
    replace hx := hx.below hb
    replace hq := hq.below hb
    replace k9 := k9.call hb
    replace hy := hy.below hb
    replace hv := hv.below hb
    replace k7 := k7.call hb
    replace hB := hB.trans (hb.mono hB.size)
    clear hb
    have fk1 := k1.all12.1
    have fk9 := k9.all12.1
    have fk7 := k7.all12.1
    go_wp2_with fail
    go_ret
    exact ⟨rfl, hB⟩

set_option maxRecDepth 100000 in
set_option maxHeartbeats 4000000 in
theorem packetBack_pr_e (p : Pk) (A : Option Addr) (n c : Nat) (B : Option Addr) (lb cb : Nat) (C : Option Addr) (lc cc : Nat) (D : Option Addr) (ld cd : Nat) (s : List UInt8) (w : World) (h : PkIn w p A n c B lb cb C lc cc) (hs : Bs w D ld cd s) (hn : n ≤ 99) (hlb : lb ≤ 300000) (hlc : lc ≤ 70000) (hld : ld ≤ 70000) (hf : fitsP p) (ht : (Lit.int .i64 p.hd.typ).wf = true) (hp : (Lit.int .i64 p.pad).wf = true) (hr : rightP p = true) (he : ¬ pErr s = 0) :
    Calls Try.prog 4 #[pkV p A n c B lb cb C lc cc, .slice D ld cd] w fun e w' => e = .returned (.bool true) ∧ Below w.heap.size w w' := by
  have hok := Lib.hid (fun (W : World) (h : PkIn W p A n c B lb cb C lc cc) => (⟨h, by omega, by omega, by omega, hf, ht, hp⟩ : PkOk W p A n c B lb cb C lc cc))
  have hsh : shortP p = true := by unfold shortP; rw [decide_eq_true_eq, h.us.len, h.ext.len, h.pay.len]; omega
  obtain ⟨hl1, hl2⟩ := packB_length_nat hr
  obtain ⟨hX, hE, hZ⟩ := writeP_yes (room := 65535) hr (by omega)
  obtain ⟨hrd1, hrd2⟩ := read_pack hr hf
  have hcnX := canon_pack hr hf
  rw [← hl1] at hZ
  have HZ := Lib.hid hZ
  have HRD := Lib.hid (And.intro hrd1 (And.intro hrd2 hcnX))
  clear hrd1 hrd2 hcnX hl1 hZ
  have HX := Lib.hid hX
  have HE := Lib.hid hE
  have hpr := Lib.hid hr
  clear hX hE hr
  generalize packB p = X at *
  have hrd : readP s = zeroP := if_neg he
  have hcn : canonP s = false := decide_eq_false fun h => he h.1
  have hne : ((pErr s : Int) != 0) = true := by rw [bne_iff_ne]; omega
  obtain ⟨er, her⟩ : ∃ er, pErr s = er := ⟨_, rfl⟩
  rw [her] at hne
  clear he
  unfold pkV
  have k1 := Box.new w [.bool p.hd.pad, .bool p.hd.ext, .bool p.hd.mark, .int .i64 p.hd.typ, .int .u16 p.hd.seq, .int .u32 p.hd.time, .int .u32 p.hd.ssrc, .slice A n c, .int .u16 p.prof, .slice B lb cb, .slice C lc cc, .int .i64 p.pad] 29
  have h1 := h.alloc (.cells #[.bool p.hd.pad, .bool p.hd.ext, .bool p.hd.mark, .int .i64 p.hd.typ, .int .u16 p.hd.seq, .int .u32 p.hd.time, .int .u32 p.hd.ssrc, .slice A n c, .int .u16 p.prof, .slice B lb cb, .slice C lc cc, .int .i64 p.pad] 29)
  have hs1 := hs.alloc (.cells #[.bool p.hd.pad, .bool p.hd.ext, .bool p.hd.mark, .int .i64 p.hd.typ, .int .u16 p.hd.seq, .int .u32 p.hd.time, .int .u32 p.hd.ssrc, .slice A n c, .int .u16 p.prof, .slice B lb cb, .slice C lc cc, .int .i64 p.pad] 29)
  have hB := below1 w (.cells #[.bool p.hd.pad, .bool p.hd.ext, .bool p.hd.mark, .int .i64 p.hd.typ, .int .u16 p.hd.seq, .int .u32 p.hd.time, .int .u32 p.hd.ssrc, .slice A n c, .int .u16 p.prof, .slice B lb cb, .slice C lc cc, .int .i64 p.pad] 29)
  go_enter Try.func4, Try.ntmps4
  go_wp2_with fail
  refine (awake_any KC _).mono ?_
  rintro e w2 ⟨rfl, hb⟩
  replace h1 := h1.below hb
  replace hs1 := hs1.below hb
  replace k1 := k1.call hb
  replace hB := hB.trans (hb.mono hB.size)
  clear hb
  have fk1 := k1.all12.1
  go_wp2_with fail
  refine (rshort_told p A n c B lb cb C lc cc _ h1 true hsh).mono ?_
  rintro e w3 ⟨rfl, hb⟩
  clear fk1
  replace h1 := h1.below hb
  replace hs1 := hs1.below hb
  replace k1 := k1.call hb
  replace hB := hB.trans (hb.mono hB.size)
  clear hb
  have fk1 := k1.all12.1
  go_wp2_with fail
  refine (write_told KC p A n c B lb cb C lc cc 65535 _ (hok.out _ h1) (by decide) X X.length 0 HX.out rfl HE.out).mono ?_
  rintro e w4 ⟨A4, c4, rfl, hx, hb⟩
  clear fk1
  replace h1 := h1.below hb
  replace hs1 := hs1.below hb
  replace k1 := k1.call hb
  replace hB := hB.trans (hb.mono hB.size)
  clear hb
  have fk1 := k1.all12.1
  go_wp2_with fail
  refine (KC.read A4 X.length c4 X _ hx (by omega)).mono ?_
  rintro e w5 ⟨A8, a8, B8, b8, C8, c8, rfl, hq, hb⟩
  rw [HRD.out.2.1] at hq ⊢
  rw [HRD.out.1]
  clear fk1
  replace h1 := h1.below hb
  replace hs1 := hs1.below hb
  replace k1 := k1.call hb
  replace hx := hx.below hb
  replace hB := hB.trans (hb.mono hB.size)
  clear hb
  have k8 := Box.new w5 [.bool p.hd.pad, .bool p.hd.ext, .bool p.hd.mark, .int .i64 p.hd.typ, .int .u16 p.hd.seq, .int .u32 p.hd.time, .int .u32 p.hd.ssrc, .slice A8 p.hd.csrc.length a8, .int .u16 p.prof, .slice B8 p.ext.length b8, .slice C8 p.pay.length c8, .int .i64 p.pad] 29
  dsimp only [pkV]
  replace h1 := h1.alloc (.cells #[.bool p.hd.pad, .bool p.hd.ext, .bool p.hd.mark, .int .i64 p.hd.typ, .int .u16 p.hd.seq, .int .u32 p.hd.time, .int .u32 p.hd.ssrc, .slice A8 p.hd.csrc.length a8, .int .u16 p.prof, .slice B8 p.ext.length b8, .slice C8 p.pay.length c8, .int .i64 p.pad] 29)
  replace hs1 := hs1.alloc (.cells #[.bool p.hd.pad, .bool p.hd.ext, .bool p.hd.mark, .int .i64 p.hd.typ, .int .u16 p.hd.seq, .int .u32 p.hd.time, .int .u32 p.hd.ssrc, .slice A8 p.hd.csrc.length a8, .int .u16 p.prof, .slice B8 p.ext.length b8, .slice C8 p.pay.length c8, .int .i64 p.pad] 29)
  replace k1 := k1.alloc (.cells #[.bool p.hd.pad, .bool p.hd.ext, .bool p.hd.mark, .int .i64 p.hd.typ, .int .u16 p.hd.seq, .int .u32 p.hd.time, .int .u32 p.hd.ssrc, .slice A8 p.hd.csrc.length a8, .int .u16 p.prof, .slice B8 p.ext.length b8, .slice C8 p.pay.length c8, .int .i64 p.pad] 29)
  replace hx := hx.alloc (.cells #[.bool p.hd.pad, .bool p.hd.ext, .bool p.hd.mark, .int .i64 p.hd.typ, .int .u16 p.hd.seq, .int .u32 p.hd.time, .int .u32 p.hd.ssrc, .slice A8 p.hd.csrc.length a8, .int .u16 p.prof, .slice B8 p.ext.length b8, .slice C8 p.pay.length c8, .int .i64 p.pad] 29)
  replace hq := hq.alloc (.cells #[.bool p.hd.pad, .bool p.hd.ext, .bool p.hd.mark, .int .i64 p.hd.typ, .int .u16 p.hd.seq, .int .u32 p.hd.time, .int .u32 p.hd.ssrc, .slice A8 p.hd.csrc.length a8, .int .u16 p.prof, .slice B8 p.ext.length b8, .slice C8 p.pay.length c8, .int .i64 p.pad] 29)
  replace hB := hB.alloc hB.size (.cells #[.bool p.hd.pad, .bool p.hd.ext, .bool p.hd.mark, .int .i64 p.hd.typ, .int .u16 p.hd.seq, .int .u32 p.hd.time, .int .u32 p.hd.ssrc, .slice A8 p.hd.csrc.length a8, .int .u16 p.prof, .slice B8 p.ext.length b8, .slice C8 p.pay.length c8, .int .i64 p.pad] 29)
  have fk1 := k1.all12.1
  have fk8 := k8.all12.1
  go_wp2_with fail
  refine (rsameP_told p A n c B lb cb C lc cc p A8 p.hd.csrc.length a8 B8 p.ext.length b8 C8 p.pay.length c8 _ h1 hq true (decide_eq_true rfl)).mono ?_
  rintro e w6 ⟨rfl, hb⟩
  clear fk1
  clear fk8
  replace h1 := h1.below hb
  replace hs1 := hs1.below hb
  replace k1 := k1.call hb
  replace hx := hx.below hb
  replace hq := hq.below hb
  replace k8 := k8.call hb
  replace hB := hB.trans (hb.mono hB.size)
  clear hb
  have fk1 := k1.all12.1
  have fk8 := k8.all12.1
  go_wp2_with fail
  refine (canon_told KC A4 X.length c4 X _ hx (by omega) true HRD.out.2.2).mono ?_
  rintro e w7 ⟨rfl, hb⟩
  clear fk1
  clear fk8
  replace h1 := h1.below hb
  replace hs1 := hs1.below hb
  replace k1 := k1.call hb
  replace hx := hx.below hb
  replace hq := hq.below hb
  replace k8 := k8.call hb
  replace hB := hB.trans (hb.mono hB.size)
  clear hb
  have fk1 := k1.all12.1
  have fk8 := k8.all12.1
  go_wp2_with fail
  refine (size_told KC p A n c B lb cb C lc cc _ (hok.out _ h1) (X.length : Int) HZ.out).mono ?_
  rintro e w8 ⟨rfl, hb⟩
  clear fk1
  clear fk8
  replace h1 := h1.below hb
  replace hs1 := hs1.below hb
  replace k1 := k1.call hb
  replace hx := hx.below hb
  replace hq := hq.below hb
  replace k8 := k8.call hb
  replace hB := hB.trans (hb.mono hB.size)
  clear hb
  have fk1 := k1.all12.1
  have fk8 := k8.all12.1
  go_wp2_with fail
  clear fk1
  clear fk8
  clear k8 hq
  have fk1 := k1.all12.1
  refine (KC.read D ld cd s _ hs1 (by omega)).mono ?_
  rintro e w9 ⟨A9, a9, B9, b9, C9, c9, rfl, hq, hb⟩
  rw [hrd] at hq ⊢
  rw [her]
  dsimp only [pkV, zeroP, zeroH, List.length_nil]
  clear fk1
  replace h1 := h1.below hb
  replace hs1 := hs1.below hb
  replace k1 := k1.call hb
  replace hx := hx.below hb
  replace hB := hB.trans (hb.mono hB.size)
  clear hb
  have k9 := Box.new w9 [.bool false, .bool false, .bool false, .int .i64 0, .int .u16 0, .int .u32 0, .int .u32 0, .slice A9 0 a9, .int .u16 0, .slice B9 0 b9, .slice C9 0 c9, .int .i64 0] 29
  replace h1 := h1.alloc (.cells #[.bool false, .bool false, .bool false, .int .i64 0, .int .u16 0, .int .u32 0, .int .u32 0, .slice A9 0 a9, .int .u16 0, .slice B9 0 b9, .slice C9 0 c9, .int .i64 0] 29)
  replace hs1 := hs1.alloc (.cells #[.bool false, .bool false, .bool false, .int .i64 0, .int .u16 0, .int .u32 0, .int .u32 0, .slice A9 0 a9, .int .u16 0, .slice B9 0 b9, .slice C9 0 c9, .int .i64 0] 29)
  replace k1 := k1.alloc (.cells #[.bool false, .bool false, .bool false, .int .i64 0, .int .u16 0, .int .u32 0, .int .u32 0, .slice A9 0 a9, .int .u16 0, .slice B9 0 b9, .slice C9 0 c9, .int .i64 0] 29)
  replace hx := hx.alloc (.cells #[.bool false, .bool false, .bool false, .int .i64 0, .int .u16 0, .int .u32 0, .int .u32 0, .slice A9 0 a9, .int .u16 0, .slice B9 0 b9, .slice C9 0 c9, .int .i64 0] 29)
  replace hq := hq.alloc (.cells #[.bool false, .bool false, .bool false, .int .i64 0, .int .u16 0, .int .u32 0, .int .u32 0, .slice A9 0 a9, .int .u16 0, .slice B9 0 b9, .slice C9 0 c9, .int .i64 0] 29)
  replace hB := hB.alloc hB.size (.cells #[.bool false, .bool false, .bool false, .int .i64 0, .int .u16 0, .int .u32 0, .int .u32 0, .slice A9 0 a9, .int .u16 0, .slice B9 0 b9, .slice C9 0 c9, .int .i64 0] 29)
  have fk1 := k1.all12.1
  have fk9 := k9.all12.1
  go_wp2_with fail
  refine (canon_told KC D ld cd s _ hs1 (by omega) false hcn).mono ?_
  rintro e w10 ⟨rfl, hb⟩
  clear fk1
  clear fk9
  replace h1 := h1.below hb
  replace hs1 := hs1.below hb
  replace k1 := k1.call hb
  replace hx := hx.below hb
  replace hq := hq.below hb
  replace k9 := k9.call hb
  replace hB := hB.trans (hb.mono hB.size)
  clear hb
  have fk1 := k1.all12.1
  have fk9 := k9.all12.1
  go_wp2_with fail
  refine (rsameP_told zeroP A9 0 a9 B9 0 b9 C9 0 c9 zeroP none 0 0 none 0 0 none 0 0 _ hq (PkIn.zero _) true (decide_eq_true rfl)).mono ?_
  rintro e w11 ⟨rfl, hb⟩
  clear fk1
  clear fk9
  replace h1 := h1.below hb
  replace hs1 := hs1.below hb
  replace k1 := k1.call hb
  replace hx := hx.below hb
  replace hq := hq.below hb
  replace k9 := k9.call hb
  replace hB := hB.trans (hb.mono hB.size)
  clear hb
  have fk1 := k1.all12.1
  have fk9 := k9.all12.1
  go_wp2_with fail
  go_ret
  exact ⟨rfl, hB⟩

set_option maxRecDepth 100000 in
set_option maxHeartbeats 4000000 in
theorem packetBack_pr_c (p : Pk) (A : Option Addr) (n c : Nat) (B : Option Addr) (lb cb : Nat) (C : Option Addr) (lc cc : Nat) (D : Option Addr) (ld cd : Nat) (s : List UInt8) (w : World) (h : PkIn w p A n c B lb cb C lc cc) (hs : Bs w D ld cd s) (hn : n ≤ 99) (hlb : lb ≤ 300000) (hlc : lc ≤ 70000) (hld : ld ≤ 70000) (hf : fitsP p) (ht : (Lit.int .i64 p.hd.typ).wf = true) (hp : (Lit.int .i64 p.pad).wf = true) (hr : rightP p = true) (he : pErr s = 0) :
    Calls Try.prog 4 #[pkV p A n c B lb cb C lc cc, .slice D ld cd] w fun e w' => e = .returned (.bool true) ∧ Below w.heap.size w w' := by
  have hok := Lib.hid (fun (W : World) (h : PkIn W p A n c B lb cb C lc cc) => (⟨h, by omega, by omega, by omega, hf, ht, hp⟩ : PkOk W p A n c B lb cb C lc cc))
  have hsh : shortP p = true := by unfold shortP; rw [decide_eq_true_eq, h.us.len, h.ext.len, h.pay.len]; omega
  obtain ⟨hl1, hl2⟩ := packB_length_nat hr
  obtain ⟨hX, hE, hZ⟩ := writeP_yes (room := 65535) hr (by omega)
  obtain ⟨hrd1, hrd2⟩ := read_pack hr hf
  have hcnX := canon_pack hr hf
  rw [← hl1] at hZ
  have HZ := Lib.hid hZ
  have HRD := Lib.hid (And.intro hrd1 (And.intro hrd2 hcnX))
  clear hrd1 hrd2 hcnX hl1 hZ
  have HX := Lib.hid hX
  have HE := Lib.hid hE
  have hpr := Lib.hid hr
  clear hX hE hr
  generalize packB p = X at *
  obtain ⟨pr1, pf1⟩ := packOf_right he
  have hsz := packOf_size he
  rw [← readP_of he] at pr1 pf1 hsz
  rw [hs.len] at hsz
  obtain ⟨rd1, rd2⟩ := read_pack pr1 pf1
  have hcn : canonP s = (packB (readP s) == s) := by
    unfold canonP
    rw [Bool.eq_iff_iff, decide_eq_true_eq, beq_iff_eq]
    exact ⟨fun h => h.2, fun h => ⟨he, h⟩⟩
  obtain ⟨yl1, yl2⟩ := packB_length_nat pr1
  have yl : (packB (readP s)).length = ld := by omega
  obtain ⟨wX, wE, _⟩ := writeP_yes (room := (ld : Int)) pr1 (by omega)
  have hok9 : Hid (∀ (W : World) (A9 B9 C9 : Option Addr) (a9 b9 c9 : Nat), PkIn W (readP s) A9 (readP s).hd.csrc.length a9 B9 (readP s).ext.length b9 C9 (readP s).pay.length c9 → PkOk W (readP s) A9 (readP s).hd.csrc.length a9 B9 (readP s).ext.length b9 C9 (readP s).pay.length c9) := Lib.hid (by
    obtain ⟨q1, q2, q3, q4, q5, q6, q7, q8⟩ := rightP_parts pr1
    unfold rightH at q1
    rw [decide_eq_true_eq] at q1
    have e1 : 0 ≤ (readP s).pad ∧ (readP s).pad ≤ 255 := by
      cases hq : (readP s).hd.pad
      · rw [q7 hq]; omega
      · have := q6 hq; omega
    have m1 : IntKind.i64.min = -9223372036854775808 := rfl
    have m2 : IntKind.i64.max = 9223372036854775807 := rfl
    exact fun W A9 B9 C9 a9 b9 c9 h => ⟨h, by omega, by omega, by omega, pf1, by simp only [Lit.wf, Bool.and_eq_true, decide_eq_true_eq]; omega, by simp only [Lit.wf, Bool.and_eq_true, decide_eq_true_eq]; omega⟩)
  have her := he
  generalize hY : packB (readP s) = Y at *
  generalize hrr : readP s = r at *
  have HW := Lib.hid (And.intro wX wE)
  have HRD2 := Lib.hid (And.intro rd1 rd2)
  have HR9 := Lib.hid pr1
  have hld2 : ld ≤ 65535 := by rw [← yl]; exact yl2
  have HYL := Lib.hid yl
  obtain ⟨cn, hcn2⟩ : ∃ cn, canonP s = cn := ⟨_, rfl⟩
  rw [hcn2] at hcn
  have hcq : ((Y : List UInt8) == s) = cn := hcn.symm
  have hws : (Lit.int .i64 (ld : Int)).wf = true := by
    have m1 : IntKind.i64.min = -9223372036854775808 := rfl
    have m2 : IntKind.i64.max = 9223372036854775807 := rfl
    simp only [Lit.wf, Bool.and_eq_true, decide_eq_true_eq]; omega
  clear he yl hY hcn wX wE rd1 rd2 pr1 pf1 hsz yl1 yl2
  unfold pkV
  have k1 := Box.new w [.bool p.hd.pad, .bool p.hd.ext, .bool p.hd.mark, .int .i64 p.hd.typ, .int .u16 p.hd.seq, .int .u32 p.hd.time, .int .u32 p.hd.ssrc, .slice A n c, .int .u16 p.prof, .slice B lb cb, .slice C lc cc, .int .i64 p.pad] 29
  have h1 := h.alloc (.cells #[.bool p.hd.pad, .bool p.hd.ext, .bool p.hd.mark, .int .i64 p.hd.typ, .int .u16 p.hd.seq, .int .u32 p.hd.time, .int .u32 p.hd.ssrc, .slice A n c, .int .u16 p.prof, .slice B lb cb, .slice C lc cc, .int .i64 p.pad] 29)
  have hs1 := hs.alloc (.cells #[.bool p.hd.pad, .bool p.hd.ext, .bool p.hd.mark, .int .i64 p.hd.typ, .int .u16 p.hd.seq, .int .u32 p.hd.time, .int .u32 p.hd.ssrc, .slice A n c, .int .u16 p.prof, .slice B lb cb, .slice C lc cc, .int .i64 p.pad] 29)
  have hB := below1 w (.cells #[.bool p.hd.pad, .bool p.hd.ext, .bool p.hd.mark, .int .i64 p.hd.typ, .int .u16 p.hd.seq, .int .u32 p.hd.time, .int .u32 p.hd.ssrc, .slice A n c, .int .u16 p.prof, .slice B lb cb, .slice C lc cc, .int .i64 p.pad] 29)
  go_enter Try.func4, Try.ntmps4
  go_wp2_with fail
  refine (awake_any KC _).mono ?_
  rintro e w2 ⟨rfl, hb⟩
  replace h1 := h1.below hb
  replace hs1 := hs1.below hb
  replace k1 := k1.call hb
  replace hB := hB.trans (hb.mono hB.size)
  clear hb
  have fk1 := k1.all12.1
  go_wp2_with fail
  refine (rshort_told p A n c B lb cb C lc cc _ h1 true hsh).mono ?_
  rintro e w3 ⟨rfl, hb⟩
  clear fk1
  replace h1 := h1.below hb
  replace hs1 := hs1.below hb
  replace k1 := k1.call hb
  replace hB := hB.trans (hb.mono hB.size)
  clear hb
  have fk1 := k1.all12.1
  go_wp2_with fail
  refine (write_told KC p A n c B lb cb C lc cc 65535 _ (hok.out _ h1) (by decide) X X.length 0 HX.out rfl HE.out).mono ?_
  rintro e w4 ⟨A4, c4, rfl, hx, hb⟩
  clear fk1
  replace h1 := h1.below hb
  replace hs1 := hs1.below hb
  replace k1 := k1.call hb
  replace hB := hB.trans (hb.mono hB.size)
  clear hb
  have fk1 := k1.all12.1
  go_wp2_with fail
  refine (KC.read A4 X.length c4 X _ hx (by omega)).mono ?_
  rintro e w5 ⟨A8, a8, B8, b8, C8, c8, rfl, hq, hb⟩
  rw [HRD.out.2.1] at hq ⊢
  rw [HRD.out.1]
  clear fk1
  replace h1 := h1.below hb
  replace hs1 := hs1.below hb
  replace k1 := k1.call hb
  replace hx := hx.below hb
  replace hB := hB.trans (hb.mono hB.size)
  clear hb
  have k8 := Box.new w5 [.bool p.hd.pad, .bool p.hd.ext, .bool p.hd.mark, .int .i64 p.hd.typ, .int .u16 p.hd.seq, .int .u32 p.hd.time, .int .u32 p.hd.ssrc, .slice A8 p.hd.csrc.length a8, .int .u16 p.prof, .slice B8 p.ext.length b8, .slice C8 p.pay.length c8, .int .i64 p.pad] 29
  dsimp only [pkV]
  replace h1 := h1.alloc (.cells #[.bool p.hd.pad, .bool p.hd.ext, .bool p.hd.mark, .int .i64 p.hd.typ, .int .u16 p.hd.seq, .int .u32 p.hd.time, .int .u32 p.hd.ssrc, .slice A8 p.hd.csrc.length a8, .int .u16 p.prof, .slice B8 p.ext.length b8, .slice C8 p.pay.length c8, .int .i64 p.pad] 29)
  replace hs1 := hs1.alloc (.cells #[.bool p.hd.pad, .bool p.hd.ext, .bool p.hd.mark, .int .i64 p.hd.typ, .int .u16 p.hd.seq, .int .u32 p.hd.time, .int .u32 p.hd.ssrc, .slice A8 p.hd.csrc.length a8, .int .u16 p.prof, .slice B8 p.ext.length b8, .slice C8 p.pay.length c8, .int .i64 p.pad] 29)
  replace k1 := k1.alloc (.cells #[.bool p.hd.pad, .bool p.hd.ext, .bool p.hd.mark, .int .i64 p.hd.typ, .int .u16 p.hd.seq, .int .u32 p.hd.time, .int .u32 p.hd.ssrc, .slice A8 p.hd.csrc.length a8, .int .u16 p.prof, .slice B8 p.ext.length b8, .slice C8 p.pay.length c8, .int .i64 p.pad] 29)
  replace hx := hx.alloc (.cells #[.bool p.hd.pad, .bool p.hd.ext, .bool p.hd.mark, .int .i64 p.hd.typ, .int .u16 p.hd.seq, .int .u32 p.hd.time, .int .u32 p.hd.ssrc, .slice A8 p.hd.csrc.length a8, .int .u16 p.prof, .slice B8 p.ext.length b8, .slice C8 p.pay.length c8, .int .i64 p.pad] 29)
  replace hq := hq.alloc (.cells #[.bool p.hd.pad, .bool p.hd.ext, .bool p.hd.mark, .int .i64 p.hd.typ, .int .u16 p.hd.seq, .int .u32 p.hd.time, .int .u32 p.hd.ssrc, .slice A8 p.hd.csrc.length a8, .int .u16 p.prof, .slice B8 p.ext.length b8, .slice C8 p.pay.length c8, .int .i64 p.pad] 29)
  replace hB := hB.alloc hB.size (.cells #[.bool p.hd.pad, .bool p.hd.ext, .bool p.hd.mark, .int .i64 p.hd.typ, .int .u16 p.hd.seq, .int .u32 p.hd.time, .int .u32 p.hd.ssrc, .slice A8 p.hd.csrc.length a8, .int .u16 p.prof, .slice B8 p.ext.length b8, .slice C8 p.pay.length c8, .int .i64 p.pad] 29)
  have fk1 := k1.all12.1
  have fk8 := k8.all12.1
  go_wp2_with fail
  refine (rsameP_told p A n c B lb cb C lc cc p A8 p.hd.csrc.length a8 B8 p.ext.length b8 C8 p.pay.length c8 _ h1 hq true (decide_eq_true rfl)).mono ?_
  rintro e w6 ⟨rfl, hb⟩
  clear fk1
  clear fk8
  replace h1 := h1.below hb
  replace hs1 := hs1.below hb
  replace k1 := k1.call hb
  replace hx := hx.below hb
  replace hq := hq.below hb
  replace k8 := k8.call hb
  replace hB := hB.trans (hb.mono hB.size)
  clear hb
  have fk1 := k1.all12.1
  have fk8 := k8.all12.1
  go_wp2_with fail
  refine (canon_told KC A4 X.length c4 X _ hx (by omega) true HRD.out.2.2).mono ?_
  rintro e w7 ⟨rfl, hb⟩
  clear fk1
  clear fk8
  replace h1 := h1.below hb
  replace hs1 := hs1.below hb
  replace k1 := k1.call hb
  replace hx := hx.below hb
  replace hq := hq.below hb
  replace k8 := k8.call hb
  replace hB := hB.trans (hb.mono hB.size)
  clear hb
  have fk1 := k1.all12.1
  have fk8 := k8.all12.1
  go_wp2_with fail
  refine (size_told KC p A n c B lb cb C lc cc _ (hok.out _ h1) (X.length : Int) HZ.out).mono ?_
  rintro e w8 ⟨rfl, hb⟩
  clear fk1
  clear fk8
  replace h1 := h1.below hb
  replace hs1 := hs1.below hb
  replace k1 := k1.call hb
  replace hx := hx.below hb
  replace hq := hq.below hb
  replace k8 := k8.call hb
  replace hB := hB.trans (hb.mono hB.size)
  clear hb
  have fk1 := k1.all12.1
  have fk8 := k8.all12.1
  go_wp2_with fail
  clear fk1
  clear fk8
  clear k8 hq
  have fk1 := k1.all12.1
  refine (KC.read D ld cd s _ hs1 (by omega)).mono ?_
  rintro e w9 ⟨A9, a9, B9, b9, C9, c9, rfl, hq, hb⟩
  rw [hrr] at hq ⊢
  rw [her]
  dsimp only [pkV]
  clear fk1
  replace h1 := h1.below hb
  replace hs1 := hs1.below hb
  replace k1 := k1.call hb
  replace hx := hx.below hb
  replace hB := hB.trans (hb.mono hB.size)
  clear hb
  have k9 := Box.new w9 [.bool r.hd.pad, .bool r.hd.ext, .bool r.hd.mark, .int .i64 r.hd.typ, .int .u16 r.hd.seq, .int .u32 r.hd.time, .int .u32 r.hd.ssrc, .slice A9 r.hd.csrc.length a9, .int .u16 r.prof, .slice B9 r.ext.length b9, .slice C9 r.pay.length c9, .int .i64 r.pad] 29
  replace h1 := h1.alloc (.cells #[.bool r.hd.pad, .bool r.hd.ext, .bool r.hd.mark, .int .i64 r.hd.typ, .int .u16 r.hd.seq, .int .u32 r.hd.time, .int .u32 r.hd.ssrc, .slice A9 r.hd.csrc.length a9, .int .u16 r.prof, .slice B9 r.ext.length b9, .slice C9 r.pay.length c9, .int .i64 r.pad] 29)
  replace hs1 := hs1.alloc (.cells #[.bool r.hd.pad, .bool r.hd.ext, .bool r.hd.mark, .int .i64 r.hd.typ, .int .u16 r.hd.seq, .int .u32 r.hd.time, .int .u32 r.hd.ssrc, .slice A9 r.hd.csrc.length a9, .int .u16 r.prof, .slice B9 r.ext.length b9, .slice C9 r.pay.length c9, .int .i64 r.pad] 29)
  replace k1 := k1.alloc (.cells #[.bool r.hd.pad, .bool r.hd.ext, .bool r.hd.mark, .int .i64 r.hd.typ, .int .u16 r.hd.seq, .int .u32 r.hd.time, .int .u32 r.hd.ssrc, .slice A9 r.hd.csrc.length a9, .int .u16 r.prof, .slice B9 r.ext.length b9, .slice C9 r.pay.length c9, .int .i64 r.pad] 29)
  replace hx := hx.alloc (.cells #[.bool r.hd.pad, .bool r.hd.ext, .bool r.hd.mark, .int .i64 r.hd.typ, .int .u16 r.hd.seq, .int .u32 r.hd.time, .int .u32 r.hd.ssrc, .slice A9 r.hd.csrc.length a9, .int .u16 r.prof, .slice B9 r.ext.length b9, .slice C9 r.pay.length c9, .int .i64 r.pad] 29)
  replace hq := hq.alloc (.cells #[.bool r.hd.pad, .bool r.hd.ext, .bool r.hd.mark, .int .i64 r.hd.typ, .int .u16 r.hd.seq, .int .u32 r.hd.time, .int .u32 r.hd.ssrc, .slice A9 r.hd.csrc.length a9, .int .u16 r.prof, .slice B9 r.ext.length b9, .slice C9 r.pay.length c9, .int .i64 r.pad] 29)
  replace hB := hB.alloc hB.size (.cells #[.bool r.hd.pad, .bool r.hd.ext, .bool r.hd.mark, .int .i64 r.hd.typ, .int .u16 r.hd.seq, .int .u32 r.hd.time, .int .u32 r.hd.ssrc, .slice A9 r.hd.csrc.length a9, .int .u16 r.prof, .slice B9 r.ext.length b9, .slice C9 r.pay.length c9, .int .i64 r.pad] 29)
  have fk1 := k1.all12.1
  have fk9 := k9.all12.1
  go_wp2_with fail
  clear fk1
  clear fk9
  refine (write_told KC r A9 r.hd.csrc.length a9 B9 r.ext.length b9 C9 r.pay.length c9 (ld : Int) _ (hok9.out _ _ _ _ _ _ _ hq) hws Y ld 0 HW.out.1 HYL.out HW.out.2).mono ?_
  rintro e w10 ⟨A5, c5, rfl, hy, hb⟩
  replace h1 := h1.below hb
  replace hs1 := hs1.below hb
  replace k1 := k1.call hb
  replace hx := hx.below hb
  replace hq := hq.below hb
  replace k9 := k9.call hb
  replace hB := hB.trans (hb.mono hB.size)
  clear hb
  have fk1 := k1.all12.1
  have fk9 := k9.all12.1
  go_upto_region 16 with fail
  go_cut [109] (fun q W => q = .bool false ∧ Below w10.heap.size w10 W)
  case first =>
    refine wp_region_held_drew (S := (fun W => (convert 27 9 (.slice A5 ld c5)).run Try.prog W = .ok (.string ⟨Y.toArray⟩) W ∧ (convert 27 9 (.slice D ld cd)).run Try.prog W = .ok (.string ⟨s.toArray⟩) W ∧ W.cell? ⟨w9.heap.size, 0, none⟩ = some (.bool r.hd.pad) ∧ W.cell? ⟨w9.heap.size, 1, none⟩ = some (.bool r.hd.ext) ∧ W.cell? ⟨w9.heap.size, 2, none⟩ = some (.bool r.hd.mark) ∧ W.cell? ⟨w9.heap.size, 3, none⟩ = some (.int .i64 r.hd.typ) ∧ W.cell? ⟨w9.heap.size, 4, none⟩ = some (.int .u16 r.hd.seq) ∧ W.cell? ⟨w9.heap.size, 5, none⟩ = some (.int .u32 r.hd.time) ∧ W.cell? ⟨w9.heap.size, 6, none⟩ = some (.int .u32 r.hd.ssrc) ∧ W.cell? ⟨w9.heap.size, 7, none⟩ = some (.slice A9 r.hd.csrc.length a9) ∧ W.cell? ⟨w9.heap.size, 8, none⟩ = some (.int .u16 r.prof) ∧ W.cell? ⟨w9.heap.size, 9, none⟩ = some (.slice B9 r.ext.length b9) ∧ W.cell? ⟨w9.heap.size, 10, none⟩ = some (.slice C9 r.pay.length c9) ∧ W.cell? ⟨w9.heap.size, 11, none⟩ = some (.int .i64 r.pad))) (by kernel_rfl) ⟨str_of hy.drew, str_of hs1.drew, fk9⟩ (fun hHeld => ?_)
    clear fk9 fk1
    refine wpAnyH_take (i := 0) (v := ?vB0) rfl (by kernel_rfl) (by kernel_rfl) (by kernel_rfl) (fun _ _ _ h => h) (Or.inl ⟨by rfl, ?hB0⟩) (by assumption) ?rB0
    case hB0 => (intro w hSw; (try dsimp only at hSw); go_simp; try with_reducible rfl)
    change wpAnyH _ _ _ _ _ _ _ (Act.put _ (some 86) _) _
    simp only [Act.put, List.setIfInBounds_toArray, List.set_cons_zero, List.set_cons_succ]
    refine wpAnyH_take (i := 1) (v := ?vB1) rfl (by kernel_rfl) (by kernel_rfl) (by kernel_rfl) (fun _ _ _ h => h) (Or.inl ⟨by rfl, ?hB1⟩) (by assumption) ?rB1
    case hB1 => (intro w hSw; (try dsimp only at hSw); go_simp; try with_reducible rfl)
    change wpAnyH _ _ _ _ _ _ _ (Act.put _ (some 87) _) _
    simp only [Act.put, List.setIfInBounds_toArray, List.set_cons_zero, List.set_cons_succ]
    refine wpAnyH_take (i := 2) (v := ?vB2) rfl (by kernel_rfl) (by kernel_rfl) (by kernel_rfl) (fun _ _ _ h => h) (Or.inl ⟨by rfl, ?hB2⟩) (by assumption) ?rB2
    case hB2 => (intro w hSw; (try dsimp only at hSw); go_simp; try with_reducible rfl)
    change wpAnyH _ _ _ _ _ _ _ (Act.put _ (some 88) _) _
    simp only [Act.put, List.setIfInBounds_toArray, List.set_cons_zero, List.set_cons_succ]
    refine wpAnyH_take (i := 3) (v := ?vB3) rfl (by kernel_rfl) (by kernel_rfl) (by kernel_rfl) (fun _ _ _ h => h) (Or.inl ⟨by rfl, ?hB3⟩) (by assumption) ?rB3
    case hB3 => (intro w hSw; (try dsimp only at hSw); go_simp; try with_reducible rfl)
    change wpAnyH _ _ _ _ _ _ _ (Act.put _ (some 89) _) _
    simp only [Act.put, List.setIfInBounds_toArray, List.set_cons_zero, List.set_cons_succ]
    refine wpAnyH_ready (rs := [4]) (by kernel_rfl) (by simp) ?_
    refine AllReadyH.cons rfl (fun K hK => ?_) AllReadyH.nil
    go_simp
    refine (right_told KC r A9 r.hd.csrc.length a9 B9 r.ext.length b9 C9 r.pay.length c9 _ (hok9.out _ _ _ _ _ _ _ hq.drew) true HR9.out).mono ?_
    rintro e wa ⟨rfl, hba⟩
    go_wp2_with fail
    have ya := Bs.below (w := w10.drew) hy hba
    have sa := Bs.below (w := w10.drew) hs1 hba
    have ka := Box.call (w := w10.drew) k9 hba
    refine hK.out _ _ ?_ (fun hHeld => ?_)
    · exact ⟨str_of ya, str_of sa, ka.all12.1⟩
    clear hK K
    try simp only [Act.put, List.setIfInBounds_toArray, List.set_cons_zero, List.set_cons_succ]
    refine wpAnyH_take (i := 5) (v := ?vB5) rfl (by kernel_rfl) (by kernel_rfl) (by kernel_rfl) (fun _ _ _ h => h) (Or.inl ⟨by rfl, ?hB5⟩) (by assumption) ?rB5
    case hB5 => (intro w hSw; (try dsimp only at hSw); go_simp; try with_reducible rfl)
    change wpAnyH _ _ _ _ _ _ _ (Act.put _ (some 91) _) _
    simp only [Act.put, List.setIfInBounds_toArray, List.set_cons_zero, List.set_cons_succ]
    refine wpAnyH_take (i := 6) (v := ?vB6) rfl (by kernel_rfl) (by kernel_rfl) (by kernel_rfl) (fun _ _ _ h => h) (Or.inl ⟨by rfl, ?hB6⟩) (by assumption) ?rB6
    case hB6 => (intro w hSw; (try dsimp only at hSw); go_simp; try with_reducible rfl)
    change wpAnyH _ _ _ _ _ _ _ (Act.put _ (some 92) _) _
    simp only [Act.put, List.setIfInBounds_toArray, List.set_cons_zero, List.set_cons_succ]
    refine wpAnyH_take (i := 7) (v := ?vB7) rfl (by kernel_rfl) (by kernel_rfl) (by kernel_rfl) (fun _ _ _ h => h) (Or.inl ⟨by rfl, ?hB7⟩) (by assumption) ?rB7
    case hB7 => (intro w hSw; (try dsimp only at hSw); go_simp; try with_reducible rfl)
    change wpAnyH _ _ _ _ _ _ _ (Act.put _ (some 93) _) _
    simp only [Act.put, List.setIfInBounds_toArray, List.set_cons_zero, List.set_cons_succ]
    refine wpAnyH_take (i := 8) (v := ?vB8) rfl (by kernel_rfl) (by kernel_rfl) (by kernel_rfl) (fun _ _ _ h => h) (Or.inl ⟨by rfl, ?hB8⟩) (by assumption) ?rB8
    case hB8 => (intro w hSw; (try dsimp only at hSw); go_simp; try with_reducible rfl)
    change wpAnyH _ _ _ _ _ _ _ (Act.put _ (some 94) _) _
    simp only [Act.put, List.setIfInBounds_toArray, List.set_cons_zero, List.set_cons_succ]
    refine wpAnyH_take (i := 9) (v := ?vB9) rfl (by kernel_rfl) (by kernel_rfl) (by kernel_rfl) (fun _ _ _ h => h) (Or.inl ⟨by rfl, ?hB9⟩) (by assumption) ?rB9
    case hB9 => (intro w hSw; (try dsimp only at hSw); go_simp; try with_reducible rfl)
    change wpAnyH _ _ _ _ _ _ _ (Act.put _ (some 95) _) _
    simp only [Act.put, List.setIfInBounds_toArray, List.set_cons_zero, List.set_cons_succ]
    refine wpAnyH_take (i := 10) (v := ?vB10) rfl (by kernel_rfl) (by kernel_rfl) (by kernel_rfl) (fun _ _ _ h => h) (Or.inl ⟨by rfl, ?hB10⟩) (by assumption) ?rB10
    case hB10 => (intro w hSw; (try dsimp only at hSw); go_simp; try with_reducible rfl)
    change wpAnyH _ _ _ _ _ _ _ (Act.put _ (some 96) _) _
    simp only [Act.put, List.setIfInBounds_toArray, List.set_cons_zero, List.set_cons_succ]
    refine wpAnyH_take (i := 11) (v := ?vB11) rfl (by kernel_rfl) (by kernel_rfl) (by kernel_rfl) (fun _ _ _ h => h) (Or.inl ⟨by rfl, ?hB11⟩) (by assumption) ?rB11
    case hB11 => (intro w hSw; (try dsimp only at hSw); go_simp; try with_reducible rfl)
    change wpAnyH _ _ _ _ _ _ _ (Act.put _ (some 97) _) _
    simp only [Act.put, List.setIfInBounds_toArray, List.set_cons_zero, List.set_cons_succ]
    refine wpAnyH_take (i := 12) (v := ?vB12) rfl (by kernel_rfl) (by kernel_rfl) (by kernel_rfl) (fun _ _ _ h => h) (Or.inl ⟨by rfl, ?hB12⟩) (by assumption) ?rB12
    case hB12 => (intro w hSw; (try dsimp only at hSw); go_simp; try with_reducible rfl)
    change wpAnyH _ _ _ _ _ _ _ (Act.put _ (some 98) _) _
    simp only [Act.put, List.setIfInBounds_toArray, List.set_cons_zero, List.set_cons_succ]
    refine wpAnyH_take (i := 13) (v := ?vB13) rfl (by kernel_rfl) (by kernel_rfl) (by kernel_rfl) (fun _ _ _ h => h) (Or.inl ⟨by rfl, ?hB13⟩) (by assumption) ?rB13
    case hB13 => (intro w hSw; (try dsimp only at hSw); go_simp; try with_reducible rfl)
    change wpAnyH _ _ _ _ _ _ _ (Act.put _ (some 99) _) _
    simp only [Act.put, List.setIfInBounds_toArray, List.set_cons_zero, List.set_cons_succ]
    refine wpAnyH_take (i := 14) (v := ?vB14) rfl (by kernel_rfl) (by kernel_rfl) (by kernel_rfl) (fun _ _ _ h => h) (Or.inl ⟨by rfl, ?hB14⟩) (by assumption) ?rB14
    case hB14 => (intro w hSw; (try dsimp only at hSw); go_simp; try with_reducible rfl)
    change wpAnyH _ _ _ _ _ _ _ (Act.put _ (some 100) _) _
    simp only [Act.put, List.setIfInBounds_toArray, List.set_cons_zero, List.set_cons_succ]
    refine wpAnyH_take (i := 15) (v := ?vB15) rfl (by kernel_rfl) (by kernel_rfl) (by kernel_rfl) (fun _ _ _ h => h) (Or.inl ⟨by rfl, ?hB15⟩) (by assumption) ?rB15
    case hB15 => (intro w hSw; (try dsimp only at hSw); go_simp; try with_reducible rfl)
    change wpAnyH _ _ _ _ _ _ _ (Act.put _ (some 101) _) _
    simp only [Act.put, List.setIfInBounds_toArray, List.set_cons_zero, List.set_cons_succ]
    refine wpAnyH_take (i := 17) (v := ?vB17) rfl (by kernel_rfl) (by kernel_rfl) (by kernel_rfl) (fun _ _ _ h => h) (Or.inl ⟨by rfl, ?hB17⟩) (by assumption) ?rB17
    case hB17 => (intro w hSw; (try dsimp only at hSw); go_simp; try with_reducible rfl)
    change wpAnyH _ _ _ _ _ _ _ (Act.put _ (some 103) _) _
    simp only [Act.put, List.setIfInBounds_toArray, List.set_cons_zero, List.set_cons_succ]
    refine wpAnyH_take (i := 18) (v := ?vB18) rfl (by kernel_rfl) (by kernel_rfl) (by kernel_rfl) (fun _ _ _ h => h) (Or.inl ⟨by rfl, ?hB18⟩) (by assumption) ?rB18
    case hB18 => (intro w hSw; (try dsimp only at hSw); go_simp; try with_reducible rfl)
    change wpAnyH _ _ _ _ _ _ _ (Act.put _ (some 104) _) _
    simp only [Act.put, List.setIfInBounds_toArray, List.set_cons_zero, List.set_cons_succ]
    refine wpAnyH_take (i := 19) (v := ?vB19) rfl (by kernel_rfl) (by kernel_rfl) (by kernel_rfl) (fun _ _ _ h => h) (Or.inl ⟨by rfl, ?hB19⟩) (by assumption) ?rB19
    case hB19 => (intro w hSw; (try dsimp only at hSw); go_simp; try with_reducible rfl)
    change wpAnyH _ _ _ _ _ _ _ (Act.put _ (some 105) _) _
    simp only [Act.put, List.setIfInBounds_toArray, List.set_cons_zero, List.set_cons_succ]
    refine wpAnyH_take (i := 20) (v := ?vB20) rfl (by kernel_rfl) (by kernel_rfl) (by kernel_rfl) (fun _ _ _ h => h) (Or.inl ⟨by rfl, ?hB20⟩) (by assumption) ?rB20
    case hB20 => (intro w hSw; (try dsimp only at hSw); go_simp; try with_reducible rfl)
    change wpAnyH _ _ _ _ _ _ _ (Act.put _ (some 106) _) _
    simp only [Act.put, List.setIfInBounds_toArray, List.set_cons_zero, List.set_cons_succ]
    refine wpAnyH_take (i := 21) (v := ?vB21) rfl (by kernel_rfl) (by kernel_rfl) (by kernel_rfl) (fun _ _ _ h => h) (Or.inl ⟨by rfl, ?hB21⟩) (by assumption) ?rB21
    case hB21 => (intro w hSw; (try dsimp only at hSw); go_simp; try with_reducible rfl)
    change wpAnyH _ _ _ _ _ _ _ (Act.put _ (some 107) _) _
    simp only [Act.put, List.setIfInBounds_toArray, List.set_cons_zero, List.set_cons_succ]
    refine wpAnyH_ready (rs := [16]) (by kernel_rfl) (by simp) ?_
    refine AllReadyH.cons rfl (fun K hK => ?_) AllReadyH.nil
    go_simp
    refine (canon_told KC D ld cd s _ sa (by omega) cn hcn2).mono ?_
    rintro e wb ⟨rfl, hbb⟩
    go_wp2_with fail
    refine hK.out _ _ ?_ (fun hHeld => ?_)
    · exact ⟨str_of (ya.below hbb), str_of (sa.below hbb), (ka.call hbb).all12.1⟩
    clear hK K
    try simp only [Act.put, List.setIfInBounds_toArray, List.set_cons_zero, List.set_cons_succ]
    refine wpAnyH_take (i := 22) (v := ?vB22) rfl (by kernel_rfl) (by kernel_rfl) (by kernel_rfl) (fun _ _ _ h => h) (Or.inl ⟨by rfl, ?hB22⟩) (by assumption) ?rB22
    case hB22 => (intro w hSw; (try dsimp only at hSw); go_simp; try with_reducible rfl)
    change wpAnyH _ _ _ _ _ _ _ (Act.put _ (some 108) _) _
    simp only [Act.put, List.setIfInBounds_toArray, List.set_cons_zero, List.set_cons_succ]
    refine wpAnyH_take (i := 23) (v := ?vB23) rfl (by kernel_rfl) (by kernel_rfl) (by kernel_rfl) (fun _ _ _ h => h) (Or.inl ⟨by rfl, ?hB23⟩) (by assumption) ?rB23
    case hB23 => (intro w hSw; (try dsimp only at hSw); go_simp; try with_reducible rfl)
    change wpAnyH _ _ _ _ _ _ _ (Act.put _ (some 109) _) _
    simp only [Act.put, List.setIfInBounds_toArray, List.set_cons_zero, List.set_cons_succ]
    refine wpAnyH_done (by kernel_rfl) ?_ _
    go_wp2_with fail
    go_meet
    exact ⟨rfl, (Below.refl _ w10).drew.trans (hba.trans (hbb.mono hba.size))⟩
  case rest =>
    obtain ⟨rfl, hb⟩ := hcut
    clear fk1
    clear fk9
    replace h1 := h1.below hb
    replace hs1 := hs1.below hb
    replace k1 := k1.call hb
    replace hx := hx.below hb
    replace hq := hq.below hb
    replace k9 := k9.call hb
    replace hy := hy.below hb
    replace hB := hB.trans (hb.mono hB.size)
    clear hb
    have fk1 := k1.all12.1
    have fk9 := k9.all12.1
    go_wp2_with fail
    refine (KC.read A5 ld c5 Y _ hy (by omega)).mono ?_
    rintro e w11 ⟨A7, a7, B7, b7, C7, c7, rfl, hv, hb⟩
    rw [HRD2.out.2] at hv ⊢
    rw [HRD2.out.1]
    clear fk1
    clear fk9
    replace h1 := h1.below hb
    replace hs1 := hs1.below hb
    replace k1 := k1.call hb
    replace hx := hx.below hb
    replace hq := hq.below hb
    replace k9 := k9.call hb
    replace hy := hy.below hb
    replace hB := hB.trans (hb.mono hB.size)
    clear hb
    have k7 := Box.new w11 [.bool r.hd.pad, .bool r.hd.ext, .bool r.hd.mark, .int .i64 r.hd.typ, .int .u16 r.hd.seq, .int .u32 r.hd.time, .int .u32 r.hd.ssrc, .slice A7 r.hd.csrc.length a7, .int .u16 r.prof, .slice B7 r.ext.length b7, .slice C7 r.pay.length c7, .int .i64 r.pad] 29
    dsimp only [pkV]
    replace h1 := h1.alloc (.cells #[.bool r.hd.pad, .bool r.hd.ext, .bool r.hd.mark, .int .i64 r.hd.typ, .int .u16 r.hd.seq, .int .u32 r.hd.time, .int .u32 r.hd.ssrc, .slice A7 r.hd.csrc.length a7, .int .u16 r.prof, .slice B7 r.ext.length b7, .slice C7 r.pay.length c7, .int .i64 r.pad] 29)
    replace hs1 := hs1.alloc (.cells #[.bool r.hd.pad, .bool r.hd.ext, .bool r.hd.mark, .int .i64 r.hd.typ, .int .u16 r.hd.seq, .int .u32 r.hd.time, .int .u32 r.hd.ssrc, .slice A7 r.hd.csrc.length a7, .int .u16 r.prof, .slice B7 r.ext.length b7, .slice C7 r.pay.length c7, .int .i64 r.pad] 29)
    replace k1 := k1.alloc (.cells #[.bool r.hd.pad, .bool r.hd.ext, .bool r.hd.mark, .int .i64 r.hd.typ, .int .u16 r.hd.seq, .int .u32 r.hd.time, .int .u32 r.hd.ssrc, .slice A7 r.hd.csrc.length a7, .int .u16 r.prof, .slice B7 r.ext.length b7, .slice C7 r.pay.length c7, .int .i64 r.pad] 29)
    replace hx := hx.alloc (.cells #[.bool r.hd.pad, .bool r.hd.ext, .bool r.hd.mark, .int .i64 r.hd.typ, .int .u16 r.hd.seq, .int .u32 r.hd.time, .int .u32 r.hd.ssrc, .slice A7 r.hd.csrc.length a7, .int .u16 r.prof, .slice B7 r.ext.length b7, .slice C7 r.pay.length c7, .int .i64 r.pad] 29)
    replace hq := hq.alloc (.cells #[.bool r.hd.pad, .bool r.hd.ext, .bool r.hd.mark, .int .i64 r.hd.typ, .int .u16 r.hd.seq, .int .u32 r.hd.time, .int .u32 r.hd.ssrc, .slice A7 r.hd.csrc.length a7, .int .u16 r.prof, .slice B7 r.ext.length b7, .slice C7 r.pay.length c7, .int .i64 r.pad] 29)
    replace k9 := k9.alloc (.cells #[.bool r.hd.pad, .bool r.hd.ext, .bool r.hd.mark, .int .i64 r.hd.typ, .int .u16 r.hd.seq, .int .u32 r.hd.time, .int .u32 r.hd.ssrc, .slice A7 r.hd.csrc.length a7, .int .u16 r.prof, .slice B7 r.ext.length b7, .slice C7 r.pay.length c7, .int .i64 r.pad] 29)
    replace hy := hy.alloc (.cells #[.bool r.hd.pad, .bool r.hd.ext, .bool r.hd.mark, .int .i64 r.hd.typ, .int .u16 r.hd.seq, .int .u32 r.hd.time, .int .u32 r.hd.ssrc, .slice A7 r.hd.csrc.length a7, .int .u16 r.prof, .slice B7 r.ext.length b7, .slice C7 r.pay.length c7, .int .i64 r.pad] 29)
    replace hv := hv.alloc (.cells #[.bool r.hd.pad, .bool r.hd.ext, .bool r.hd.mark, .int .i64 r.hd.typ, .int .u16 r.hd.seq, .int .u32 r.hd.time, .int .u32 r.hd.ssrc, .slice A7 r.hd.csrc.length a7, .int .u16 r.prof, .slice B7 r.ext.length b7, .slice C7 r.pay.length c7, .int .i64 r.pad] 29)
    replace hB := hB.alloc hB.size (.cells #[.bool r.hd.pad, .bool r.hd.ext, .bool r.hd.mark, .int .i64 r.hd.typ, .int .u16 r.hd.seq, .int .u32 r.hd.time, .int .u32 r.hd.ssrc, .slice A7 r.hd.csrc.length a7, .int .u16 r.prof, .slice B7 r.ext.length b7, .slice C7 r.pay.length c7, .int .i64 r.pad] 29)
    have fk1 := k1.all12.1
    have fk9 := k9.all12.1
    have fk7 := k7.all12.1
    go_wp2_with fail
    refine (rsameP_told r A9 r.hd.csrc.length a9 B9 r.ext.length b9 C9 r.pay.length c9 r A7 r.hd.csrc.length a7 B7 r.ext.length b7 C7 r.pay.length c7 _ hq hv true (decide_eq_true rfl)).mono ?_
    rintro e w12 ⟨rfl, hb⟩
    clear fk1
    clear fk9
    clear fk7
    replace h1 := h1.below hb
    replace hs1 := hs1.below hb
    replace k1 := k1.call hb
    replace hx := hx.below hb
    replace hq := hq.below hb
    replace k9 := k9.call hb
    replace hy := hy.below hb
    replace hv := hv.below hb
    replace k7 := k7.call hb
    replace hB := hB.trans (hb.mono hB.size)
    clear hb
    have fk1 := k1.all12.1
    have fk9 := k9.all12.1
    have fk7 := k7.all12.1
    go_wp2_with fail
    go_ret
    exact ⟨rfl, hB⟩

theorem packetBack_all (p : Pk) (A : Option Addr) (n c : Nat) (B : Option Addr) (lb cb : Nat) (C : Option Addr) (lc cc : Nat) (D : Option Addr) (ld cd : Nat) (s : List UInt8) (w : World) (h : PkIn w p A n c B lb cb C lc cc) (hs : Bs w D ld cd s) (hf : fitsP p) (ht : (Lit.int .i64 p.hd.typ).wf = true) (hp : (Lit.int .i64 p.pad).wf = true) :
    Calls Try.prog 4 #[pkV p A n c B lb cb C lc cc, .slice D ld cd] w fun e w' => e = .returned (.bool true) ∧ Below w.heap.size w w' := by
  have l1 := h.us.len
  have l2 := h.ext.len
  have l3 := h.pay.len
  by_cases hb : shortP p = false ∨ 70000 < ld
  · exact packetBack_big KC p A n c B lb cb C lc cc D ld cd w h (Nat.le_trans hs.le (Nat.le_trans hs.cap (by decide))) hb
  · have hsh : shortP p = true := by
      cases hq : shortP p
      · exact absurd (.inl hq) hb
      · rfl
    unfold shortP at hsh
    rw [decide_eq_true_eq, l1, l2, l3] at hsh
    cases hr : rightP p
    · by_cases he : pErr s = 0
      · exact packetBack_pn_c KC p A n c B lb cb C lc cc D ld cd s w h hs hsh.1 hsh.2.1 hsh.2.2 (by omega) hf ht hp hr he
      · exact packetBack_pn_e KC p A n c B lb cb C lc cc D ld cd s w h hs hsh.1 hsh.2.1 hsh.2.2 (by omega) hf ht hp hr he
    · by_cases he : pErr s = 0
      · exact packetBack_pr_c KC p A n c B lb cb C lc cc D ld cd s w h hs hsh.1 hsh.2.1 hsh.2.2 (by omega) hf ht hp hr he
      · exact packetBack_pr_e KC p A n c B lb cb C lc cc D ld cd s w h hs hsh.1 hsh.2.1 hsh.2.2 (by omega) hf ht hp hr he
end

end Go.Proofs.Ytbalpndgpdbcbaa

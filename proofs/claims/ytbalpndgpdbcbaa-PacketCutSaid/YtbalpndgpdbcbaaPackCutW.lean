/-
  PacketCut holds: canonical bytes cut anywhere, and with more behind. (Written by gen_PackCutW.py.)
-/
import Derived.Test.YtbalpndgpdbcbaaPackRightW
import Derived.Test.YtbalpndgpdbcbaaByteZ
namespace Go.Proofs.Ytbalpndgpdbcbaa
open Go.RowKit
set_option linter.unusedVariables false
set_option linter.unusedSimpArgs false

/-- A packet that was read may be handed over. -/
theorem pk_ok {r : Pk} (hr : rightP r = true) (hf : fitsP r) : ∀ (W : World) (A8 B8 C8 : Option Addr) (a8 b8 c8 : Nat), PkIn W r A8 r.hd.csrc.length a8 B8 r.ext.length b8 C8 r.pay.length c8 → PkOk W r A8 r.hd.csrc.length a8 B8 r.ext.length b8 C8 r.pay.length c8 := by
  obtain ⟨q1, q2, q3, q4, q5, q6, q7, q8⟩ := rightP_parts hr
  unfold rightH at q1
  rw [decide_eq_true_eq] at q1
  have e1 : 0 ≤ r.pad ∧ r.pad ≤ 255 := by
    cases hq : r.hd.pad
    · rw [q7 hq]; omega
    · have := q6 hq; omega
  have m1 : IntKind.i64.min = -9223372036854775808 := rfl
  have m2 : IntKind.i64.max = 9223372036854775807 := rfl
  exact fun W A8 B8 C8 a8 b8 c8 h => ⟨h, by omega, by omega, by omega, hf, by simp only [Lit.wf, Bool.and_eq_true, decide_eq_true_eq]; omega, by simp only [Lit.wf, Bool.and_eq_true, decide_eq_true_eq]; omega⟩

section
variable (KC : PackCalls)
include KC

set_option maxRecDepth 100000 in
set_option maxHeartbeats 4000000 in
theorem packetCut_z_e (p : Pk) (A : Option Addr) (n c : Nat) (B : Option Addr) (lb cb : Nat) (C : Option Addr) (lc cc : Nat) (cut : Nat) (D : Option Addr) (ld cd : Nat) (m : List UInt8) (w : World) (h : PkIn w p A n c B lb cb C lc cc) (hs : Bs w D ld cd m) (hn : n ≤ 99) (hlb : lb ≤ 3000) (hlc : lc ≤ 3000) (hld : ld ≤ 3000) (hcut : cut < 65536) (hf : fitsP p) (ht : (Lit.int .i64 p.hd.typ).wf = true) (hp : (Lit.int .i64 p.pad).wf = true) (hr : rightP p = true) (h1c : pErr ((packB p).take (cut % (packB p).length)) = 0) (h1k : 12 ≤ cut % (packB p).length) (h2c : ld = 0) :
    Calls Try.prog 5 #[pkV p A n c B lb cb C lc cc, .int .u16 cut, .slice D ld cd] w fun e w' => e = .returned (.bool true) ∧ Below w.heap.size w w' := by
  have hok := Lib.hid (fun (W : World) (h : PkIn W p A n c B lb cb C lc cc) => (⟨h, by omega, by omega, by omega, hf, ht, hp⟩ : PkOk W p A n c B lb cb C lc cc))
  have hsh : shortP p = true := by unfold shortP; rw [decide_eq_true_eq, h.us.len, h.ext.len, h.pay.len]; omega
  obtain ⟨hl1, hl2⟩ := packB_length_nat hr
  obtain ⟨hX, hE, hZ⟩ := writeP_yes (room := 65535) hr (by omega)
  have hx12 : 12 ≤ (packB p).length := by obtain ⟨T, hT⟩ := packB_head hr; rw [hT, List.length_append, headB_length]; omega
  obtain ⟨_, _, hcz⟩ := pack_cut hr hf (cut % (packB p).length) (Nat.mod_lt _ (by omega))
  obtain ⟨hne1, hsz1⟩ := hcz h1c
  obtain ⟨pr1, pf1⟩ := packOf_right h1c
  rw [← readP_of h1c] at pr1 pf1
  have HSZ : Hid (sizePE (readP ((packB p).take (cut % (packB p).length))) = ((cut % (packB p).length : Nat) : Int)) := Lib.hid ((if_pos pr1).trans hsz1)
  have hok8 : Hid (∀ (W : World) (A8 B8 C8 : Option Addr) (a8 b8 c8 : Nat), PkIn W (readP ((packB p).take (cut % (packB p).length))) A8 (readP ((packB p).take (cut % (packB p).length))).hd.csrc.length a8 B8 (readP ((packB p).take (cut % (packB p).length))).ext.length b8 C8 (readP ((packB p).take (cut % (packB p).length))).pay.length c8 → PkOk W (readP ((packB p).take (cut % (packB p).length))) A8 (readP ((packB p).take (cut % (packB p).length))).hd.csrc.length a8 B8 (readP ((packB p).take (cut % (packB p).length))).ext.length b8 C8 (readP ((packB p).take (cut % (packB p).length))).pay.length c8) := Lib.hid (pk_ok pr1 pf1)
  have HR1 := Lib.hid (And.intro h1c hne1)
  clear hcz hne1 hsz1 pr1 pf1 h1c
  obtain ⟨r1, hr1⟩ : ∃ r1, readP ((packB p).take (cut % (packB p).length)) = r1 := ⟨_, rfl⟩
  rw [hr1] at HR1 HSZ hok8
  have HRR1 := Lib.hid hr1
  clear hr1
  have hm0 : m = [] := List.eq_nil_of_length_eq_zero (by rw [hs.len]; exact h2c)
  obtain ⟨hrd1, hrd2⟩ := read_pack hr hf
  have HR2 : Hid (pErr (packB p ++ m) = 0 ∧ readP (packB p ++ m) = p) := Lib.hid (by rw [hm0, List.append_nil]; exact ⟨hrd1, hrd2⟩)
  have hldz : ((ld : Int) == 0) = true := by rw [beq_iff_eq]; omega
  clear hm0 hrd1 hrd2 h2c
  have HX := Lib.hid hX
  have HE := Lib.hid hE
  have hcm : Int.tmod (cut : Int) ((packB p).length : Int) = ((cut % (packB p).length : Nat) : Int) := by rw [Int.tmod_eq_emod_of_nonneg (by omega)]; omega
  have hkl : cut % (packB p).length ≤ (packB p).length := Nat.le_of_lt (Nat.mod_lt _ (by omega))
  have hcw : IntKind.i64.wrap (cut : Int) = (cut : Int) := IntWalk.i64_in _ (by omega)
  clear hX hE hZ hr hl1
  generalize packB p = X at *
  obtain ⟨k, hk⟩ : ∃ k, cut % X.length = k := ⟨_, rfl⟩
  rw [hk] at HSZ hcm hkl h1k
  have HK := Lib.hid hk
  clear hk
  have hk12 : decide ((k : Int) < 12) = false := decide_eq_false (by omega)
  unfold pkV
  have k1 := Box.new w [.bool p.hd.pad, .bool p.hd.ext, .bool p.hd.mark, .int .i64 p.hd.typ, .int .u16 p.hd.seq, .int .u32 p.hd.time, .int .u32 p.hd.ssrc, .slice A n c, .int .u16 p.prof, .slice B lb cb, .slice C lc cc, .int .i64 p.pad] 29
  have h1 := h.alloc (.cells #[.bool p.hd.pad, .bool p.hd.ext, .bool p.hd.mark, .int .i64 p.hd.typ, .int .u16 p.hd.seq, .int .u32 p.hd.time, .int .u32 p.hd.ssrc, .slice A n c, .int .u16 p.prof, .slice B lb cb, .slice C lc cc, .int .i64 p.pad] 29)
  have hs1 := hs.alloc (.cells #[.bool p.hd.pad, .bool p.hd.ext, .bool p.hd.mark, .int .i64 p.hd.typ, .int .u16 p.hd.seq, .int .u32 p.hd.time, .int .u32 p.hd.ssrc, .slice A n c, .int .u16 p.prof, .slice B lb cb, .slice C lc cc, .int .i64 p.pad] 29)
  have hB := below1 w (.cells #[.bool p.hd.pad, .bool p.hd.ext, .bool p.hd.mark, .int .i64 p.hd.typ, .int .u16 p.hd.seq, .int .u32 p.hd.time, .int .u32 p.hd.ssrc, .slice A n c, .int .u16 p.prof, .slice B lb cb, .slice C lc cc, .int .i64 p.pad] 29)
  go_enter Try.func5, Try.ntmps5
  go_wp2_with fail
  refine (awake_any KC _).mono ?_
  rintro e w2 ⟨rfl, hb⟩
  replace h1 := h1.below hb
  replace hs1 := hs1.below hb
  replace k1 := k1.call hb
  replace hB := hB.trans (hb.mono hB.size)
  clear hb
  have fk1 := k1.all12.1
  go_wp2_with fail
  refine (rshort_told p A n c B lb cb C lc cc _ h1 true hsh).mono ?_
  rintro e w3 ⟨rfl, hb⟩
  clear fk1
  replace h1 := h1.below hb
  replace hs1 := hs1.below hb
  replace k1 := k1.call hb
  replace hB := hB.trans (hb.mono hB.size)
  clear hb
  have fk1 := k1.all12.1
  go_wp2_with fail
  refine (write_told KC p A n c B lb cb C lc cc 65535 _ (hok.out _ h1) (by decide) X X.length 0 HX.out rfl HE.out).mono ?_
  rintro e w4 ⟨A4, c4, rfl, hx, hb⟩
  clear fk1
  replace h1 := h1.below hb
  replace hs1 := hs1.below hb
  replace k1 := k1.call hb
  replace hB := hB.trans (hb.mono hB.size)
  clear hb
  have fk1 := k1.all12.1
  obtain ⟨A5, c5, hsl, hY⟩ := hx.slice_r Try.underlying27 byte_size (r := k) hkl
  have hsl2 := fun W => hsl W (k : Int) rfl
  clear hsl
  go_wp2_with fail
  refine (KC.read A5 k c5 _ _ hY (by omega)).mono ?_
  rintro e w5 ⟨A8, a8, B8, b8, C8, c8, rfl, hq, hb⟩
  clear hsl2 hY
  rw [← HK.out, HRR1.out] at hq ⊢
  rw [HR1.out.1]
  dsimp only [pkV]
  try rw [HK.out]
  clear fk1
  replace h1 := h1.below hb
  replace hs1 := hs1.below hb
  replace k1 := k1.call hb
  replace hx := hx.below hb
  replace hB := hB.trans (hb.mono hB.size)
  clear hb
  have k8 := Box.new w5 [.bool r1.hd.pad, .bool r1.hd.ext, .bool r1.hd.mark, .int .i64 r1.hd.typ, .int .u16 r1.hd.seq, .int .u32 r1.hd.time, .int .u32 r1.hd.ssrc, .slice A8 r1.hd.csrc.length a8, .int .u16 r1.prof, .slice B8 r1.ext.length b8, .slice C8 r1.pay.length c8, .int .i64 r1.pad] 29
  replace h1 := h1.alloc (.cells #[.bool r1.hd.pad, .bool r1.hd.ext, .bool r1.hd.mark, .int .i64 r1.hd.typ, .int .u16 r1.hd.seq, .int .u32 r1.hd.time, .int .u32 r1.hd.ssrc, .slice A8 r1.hd.csrc.length a8, .int .u16 r1.prof, .slice B8 r1.ext.length b8, .slice C8 r1.pay.length c8, .int .i64 r1.pad] 29)
  replace hs1 := hs1.alloc (.cells #[.bool r1.hd.pad, .bool r1.hd.ext, .bool r1.hd.mark, .int .i64 r1.hd.typ, .int .u16 r1.hd.seq, .int .u32 r1.hd.time, .int .u32 r1.hd.ssrc, .slice A8 r1.hd.csrc.length a8, .int .u16 r1.prof, .slice B8 r1.ext.length b8, .slice C8 r1.pay.length c8, .int .i64 r1.pad] 29)
  replace k1 := k1.alloc (.cells #[.bool r1.hd.pad, .bool r1.hd.ext, .bool r1.hd.mark, .int .i64 r1.hd.typ, .int .u16 r1.hd.seq, .int .u32 r1.hd.time, .int .u32 r1.hd.ssrc, .slice A8 r1.hd.csrc.length a8, .int .u16 r1.prof, .slice B8 r1.ext.length b8, .slice C8 r1.pay.length c8, .int .i64 r1.pad] 29)
  replace hx := hx.alloc (.cells #[.bool r1.hd.pad, .bool r1.hd.ext, .bool r1.hd.mark, .int .i64 r1.hd.typ, .int .u16 r1.hd.seq, .int .u32 r1.hd.time, .int .u32 r1.hd.ssrc, .slice A8 r1.hd.csrc.length a8, .int .u16 r1.prof, .slice B8 r1.ext.length b8, .slice C8 r1.pay.length c8, .int .i64 r1.pad] 29)
  replace hq := hq.alloc (.cells #[.bool r1.hd.pad, .bool r1.hd.ext, .bool r1.hd.mark, .int .i64 r1.hd.typ, .int .u16 r1.hd.seq, .int .u32 r1.hd.time, .int .u32 r1.hd.ssrc, .slice A8 r1.hd.csrc.length a8, .int .u16 r1.prof, .slice B8 r1.ext.length b8, .slice C8 r1.pay.length c8, .int .i64 r1.pad] 29)
  replace hB := hB.alloc hB.size (.cells #[.bool r1.hd.pad, .bool r1.hd.ext, .bool r1.hd.mark, .int .i64 r1.hd.typ, .int .u16 r1.hd.seq, .int .u32 r1.hd.time, .int .u32 r1.hd.ssrc, .slice A8 r1.hd.csrc.length a8, .int .u16 r1.prof, .slice B8 r1.ext.length b8, .slice C8 r1.pay.length c8, .int .i64 r1.pad] 29)
  have fk1 := k1.all12.1
  have fk8 := k8.all12.1
  go_wp2_with fail
  refine (rsameP_told p A n c B lb cb C lc cc r1 A8 r1.hd.csrc.length a8 B8 r1.ext.length b8 C8 r1.pay.length c8 _ h1 hq false (decide_eq_false (fun e => HR1.out.2 e.symm))).mono ?_
  rintro e w6 ⟨rfl, hb⟩
  clear fk1
  clear fk8
  replace h1 := h1.below hb
  replace hs1 := hs1.below hb
  replace k1 := k1.call hb
  replace hx := hx.below hb
  replace hq := hq.below hb
  replace k8 := k8.call hb
  replace hB := hB.trans (hb.mono hB.size)
  clear hb
  have fk1 := k1.all12.1
  have fk8 := k8.all12.1
  go_wp2_with fail
  refine (size_told KC r1 A8 r1.hd.csrc.length a8 B8 r1.ext.length b8 C8 r1.pay.length c8 _ (hok8.out _ _ _ _ _ _ _ hq) (k : Int) HSZ.out).mono ?_
  rintro e w7 ⟨rfl, hb⟩
  clear fk1
  clear fk8
  replace h1 := h1.below hb
  replace hs1 := hs1.below hb
  replace k1 := k1.call hb
  replace hx := hx.below hb
  replace hq := hq.below hb
  replace k8 := k8.call hb
  replace hB := hB.trans (hb.mono hB.size)
  clear hb
  have fk1 := k1.all12.1
  have fk8 := k8.all12.1
  generalize hwz : w7 = wz at *
  clear hwz
  go_wp2_with (at_builtin; first
    | (refine wpList_app _ rfl (.tmp 94) (.tmp 95) 27 rfl wz.heap.size 5 Try.underlying27 byte_info (some ⟨wz.heap.size, 0, none⟩) 0 0 [] rfl (own_empty wz _ _ (Nat.le_refl _)) A4 X.length c4 X rfl (hx.alloc _) (by omega) (by simp) ?_; intro A6 c6 w6 hown6 hb6; rw [Nat.zero_add] at hown6; rw [List.nil_append] at hown6; replace hb6 : Below wz.heap.size wz w6 := ((Below.refl _ wz).alloc (Nat.le_refl _) _).trans hb6; have hsz6 := hb6.size; rw [Nat.zero_add])
    | go_loud (refine wpList_app _ rfl (.tmp 96) (.tmp 97) 27 rfl wz.heap.size 5 Try.underlying27 byte_info A6 X.length c6 X rfl hown6 D ld cd m rfl (hs1.below hb6) (by omega) (by omega) ?_; intro A7 c7 w9 hown7 hb7))
  have hb := hb6.trans hb7
  clear hown6 hb6 hb7 hsz6
  clear fk1
  clear fk8
  clear k8 hq
  have fk1 := k1.all12.1
  clear fk1
  replace h1 := h1.below hb
  replace hs1 := hs1.below hb
  replace k1 := k1.call hb
  replace hx := hx.below hb
  replace hB := hB.trans (hb.mono hB.size)
  clear hb
  refine (KC.read A7 (X.length + ld) c7 (X ++ m) _ hown7.bs (by omega)).mono ?_
  rintro e w10 ⟨A9, a9, B9, b9, C9, c9, rfl, hv, hb⟩
  rw [HR2.out.2] at hv ⊢
  rw [HR2.out.1]
  dsimp only [pkV]
  replace h1 := h1.below hb
  replace hs1 := hs1.below hb
  replace k1 := k1.call hb
  replace hx := hx.below hb
  replace hB := hB.trans (hb.mono hB.size)
  clear hb
  have k9 := Box.new w10 [.bool p.hd.pad, .bool p.hd.ext, .bool p.hd.mark, .int .i64 p.hd.typ, .int .u16 p.hd.seq, .int .u32 p.hd.time, .int .u32 p.hd.ssrc, .slice A9 p.hd.csrc.length a9, .int .u16 p.prof, .slice B9 p.ext.length b9, .slice C9 p.pay.length c9, .int .i64 p.pad] 29
  replace h1 := h1.alloc (.cells #[.bool p.hd.pad, .bool p.hd.ext, .bool p.hd.mark, .int .i64 p.hd.typ, .int .u16 p.hd.seq, .int .u32 p.hd.time, .int .u32 p.hd.ssrc, .slice A9 p.hd.csrc.length a9, .int .u16 p.prof, .slice B9 p.ext.length b9, .slice C9 p.pay.length c9, .int .i64 p.pad] 29)
  replace hs1 := hs1.alloc (.cells #[.bool p.hd.pad, .bool p.hd.ext, .bool p.hd.mark, .int .i64 p.hd.typ, .int .u16 p.hd.seq, .int .u32 p.hd.time, .int .u32 p.hd.ssrc, .slice A9 p.hd.csrc.length a9, .int .u16 p.prof, .slice B9 p.ext.length b9, .slice C9 p.pay.length c9, .int .i64 p.pad] 29)
  replace k1 := k1.alloc (.cells #[.bool p.hd.pad, .bool p.hd.ext, .bool p.hd.mark, .int .i64 p.hd.typ, .int .u16 p.hd.seq, .int .u32 p.hd.time, .int .u32 p.hd.ssrc, .slice A9 p.hd.csrc.length a9, .int .u16 p.prof, .slice B9 p.ext.length b9, .slice C9 p.pay.length c9, .int .i64 p.pad] 29)
  replace hx := hx.alloc (.cells #[.bool p.hd.pad, .bool p.hd.ext, .bool p.hd.mark, .int .i64 p.hd.typ, .int .u16 p.hd.seq, .int .u32 p.hd.time, .int .u32 p.hd.ssrc, .slice A9 p.hd.csrc.length a9, .int .u16 p.prof, .slice B9 p.ext.length b9, .slice C9 p.pay.length c9, .int .i64 p.pad] 29)
  replace hv := hv.alloc (.cells #[.bool p.hd.pad, .bool p.hd.ext, .bool p.hd.mark, .int .i64 p.hd.typ, .int .u16 p.hd.seq, .int .u32 p.hd.time, .int .u32 p.hd.ssrc, .slice A9 p.hd.csrc.length a9, .int .u16 p.prof, .slice B9 p.ext.length b9, .slice C9 p.pay.length c9, .int .i64 p.pad] 29)
  replace hB := hB.alloc hB.size (.cells #[.bool p.hd.pad, .bool p.hd.ext, .bool p.hd.mark, .int .i64 p.hd.typ, .int .u16 p.hd.seq, .int .u32 p.hd.time, .int .u32 p.hd.ssrc, .slice A9 p.hd.csrc.length a9, .int .u16 p.prof, .slice B9 p.ext.length b9, .slice C9 p.pay.length c9, .int .i64 p.pad] 29)
  have fk1 := k1.all12.1
  have fk9 := k9.all12.1
  go_wp2_with fail
  refine (rsameP_told p A n c B lb cb C lc cc p A9 p.hd.csrc.length a9 B9 p.ext.length b9 C9 p.pay.length c9 _ h1 hv true (decide_eq_true rfl)).mono ?_
  rintro e w11 ⟨rfl, hb⟩
  replace hB := hB.trans (hb.mono hB.size)
  clear fk1 fk9
  go_wp2_with fail
  go_ret
  exact ⟨by first | rfl | simp_all, hB⟩

set_option maxRecDepth 100000 in
set_option maxHeartbeats 4000000 in
theorem packetCut_z_q (p : Pk) (A : Option Addr) (n c : Nat) (B : Option Addr) (lb cb : Nat) (C : Option Addr) (lc cc : Nat) (cut : Nat) (D : Option Addr) (ld cd : Nat) (m : List UInt8) (w : World) (h : PkIn w p A n c B lb cb C lc cc) (hs : Bs w D ld cd m) (hn : n ≤ 99) (hlb : lb ≤ 3000) (hlc : lc ≤ 3000) (hld : ld ≤ 3000) (hcut : cut < 65536) (hf : fitsP p) (ht : (Lit.int .i64 p.hd.typ).wf = true) (hp : (Lit.int .i64 p.pad).wf = true) (hr : rightP p = true) (h1c : pErr ((packB p).take (cut % (packB p).length)) = 0) (h1k : 12 ≤ cut % (packB p).length) (h2l : 0 < ld) (h2c : pErr (packB p ++ m) = 0 ∧ readP (packB p ++ m) ≠ p) :
    Calls Try.prog 5 #[pkV p A n c B lb cb C lc cc, .int .u16 cut, .slice D ld cd] w fun e w' => e = .returned (.bool true) ∧ Below w.heap.size w w' := by
  have hok := Lib.hid (fun (W : World) (h : PkIn W p A n c B lb cb C lc cc) => (⟨h, by omega, by omega, by omega, hf, ht, hp⟩ : PkOk W p A n c B lb cb C lc cc))
  have hsh : shortP p = true := by unfold shortP; rw [decide_eq_true_eq, h.us.len, h.ext.len, h.pay.len]; omega
  obtain ⟨hl1, hl2⟩ := packB_length_nat hr
  obtain ⟨hX, hE, hZ⟩ := writeP_yes (room := 65535) hr (by omega)
  have hx12 : 12 ≤ (packB p).length := by obtain ⟨T, hT⟩ := packB_head hr; rw [hT, List.length_append, headB_length]; omega
  obtain ⟨_, _, hcz⟩ := pack_cut hr hf (cut % (packB p).length) (Nat.mod_lt _ (by omega))
  obtain ⟨hne1, hsz1⟩ := hcz h1c
  obtain ⟨pr1, pf1⟩ := packOf_right h1c
  rw [← readP_of h1c] at pr1 pf1
  have HSZ : Hid (sizePE (readP ((packB p).take (cut % (packB p).length))) = ((cut % (packB p).length : Nat) : Int)) := Lib.hid ((if_pos pr1).trans hsz1)
  have hok8 : Hid (∀ (W : World) (A8 B8 C8 : Option Addr) (a8 b8 c8 : Nat), PkIn W (readP ((packB p).take (cut % (packB p).length))) A8 (readP ((packB p).take (cut % (packB p).length))).hd.csrc.length a8 B8 (readP ((packB p).take (cut % (packB p).length))).ext.length b8 C8 (readP ((packB p).take (cut % (packB p).length))).pay.length c8 → PkOk W (readP ((packB p).take (cut % (packB p).length))) A8 (readP ((packB p).take (cut % (packB p).length))).hd.csrc.length a8 B8 (readP ((packB p).take (cut % (packB p).length))).ext.length b8 C8 (readP ((packB p).take (cut % (packB p).length))).pay.length c8) := Lib.hid (pk_ok pr1 pf1)
  have HR1 := Lib.hid (And.intro h1c hne1)
  clear hcz hne1 hsz1 pr1 pf1 h1c
  obtain ⟨r1, hr1⟩ : ∃ r1, readP ((packB p).take (cut % (packB p).length)) = r1 := ⟨_, rfl⟩
  rw [hr1] at HR1 HSZ hok8
  have HRR1 := Lib.hid hr1
  clear hr1
  have hldz : ((ld : Int) == 0) = false := by rw [beq_eq_false_iff_ne]; omega
  obtain ⟨r2, hr2⟩ : ∃ r2, readP (packB p ++ m) = r2 := ⟨_, rfl⟩
  rw [hr2] at h2c
  have HR2 := Lib.hid (And.intro h2c.1 (And.intro hr2 h2c.2))
  clear h2c hr2
  have HX := Lib.hid hX
  have HE := Lib.hid hE
  have hcm : Int.tmod (cut : Int) ((packB p).length : Int) = ((cut % (packB p).length : Nat) : Int) := by rw [Int.tmod_eq_emod_of_nonneg (by omega)]; omega
  have hkl : cut % (packB p).length ≤ (packB p).length := Nat.le_of_lt (Nat.mod_lt _ (by omega))
  have hcw : IntKind.i64.wrap (cut : Int) = (cut : Int) := IntWalk.i64_in _ (by omega)
  clear hX hE hZ hr hl1
  generalize packB p = X at *
  obtain ⟨k, hk⟩ : ∃ k, cut % X.length = k := ⟨_, rfl⟩
  rw [hk] at HSZ hcm hkl h1k
  have HK := Lib.hid hk
  clear hk
  have hk12 : decide ((k : Int) < 12) = false := decide_eq_false (by omega)
  unfold pkV
  have k1 := Box.new w [.bool p.hd.pad, .bool p.hd.ext, .bool p.hd.mark, .int .i64 p.hd.typ, .int .u16 p.hd.seq, .int .u32 p.hd.time, .int .u32 p.hd.ssrc, .slice A n c, .int .u16 p.prof, .slice B lb cb, .slice C lc cc, .int .i64 p.pad] 29
  have h1 := h.alloc (.cells #[.bool p.hd.pad, .bool p.hd.ext, .bool p.hd.mark, .int .i64 p.hd.typ, .int .u16 p.hd.seq, .int .u32 p.hd.time, .int .u32 p.hd.ssrc, .slice A n c, .int .u16 p.prof, .slice B lb cb, .slice C lc cc, .int .i64 p.pad] 29)
  have hs1 := hs.alloc (.cells #[.bool p.hd.pad, .bool p.hd.ext, .bool p.hd.mark, .int .i64 p.hd.typ, .int .u16 p.hd.seq, .int .u32 p.hd.time, .int .u32 p.hd.ssrc, .slice A n c, .int .u16 p.prof, .slice B lb cb, .slice C lc cc, .int .i64 p.pad] 29)
  have hB := below1 w (.cells #[.bool p.hd.pad, .bool p.hd.ext, .bool p.hd.mark, .int .i64 p.hd.typ, .int .u16 p.hd.seq, .int .u32 p.hd.time, .int .u32 p.hd.ssrc, .slice A n c, .int .u16 p.prof, .slice B lb cb, .slice C lc cc, .int .i64 p.pad] 29)
  go_enter Try.func5, Try.ntmps5
  go_wp2_with fail
  refine (awake_any KC _).mono ?_
  rintro e w2 ⟨rfl, hb⟩
  replace h1 := h1.below hb
  replace hs1 := hs1.below hb
  replace k1 := k1.call hb
  replace hB := hB.trans (hb.mono hB.size)
  clear hb
  have fk1 := k1.all12.1
  go_wp2_with fail
  refine (rshort_told p A n c B lb cb C lc cc _ h1 true hsh).mono ?_
  rintro e w3 ⟨rfl, hb⟩
  clear fk1
  replace h1 := h1.below hb
  replace hs1 := hs1.below hb
  replace k1 := k1.call hb
  replace hB := hB.trans (hb.mono hB.size)
  clear hb
  have fk1 := k1.all12.1
  go_wp2_with fail
  refine (write_told KC p A n c B lb cb C lc cc 65535 _ (hok.out _ h1) (by decide) X X.length 0 HX.out rfl HE.out).mono ?_
  rintro e w4 ⟨A4, c4, rfl, hx, hb⟩
  clear fk1
  replace h1 := h1.below hb
  replace hs1 := hs1.below hb
  replace k1 := k1.call hb
  replace hB := hB.trans (hb.mono hB.size)
  clear hb
  have fk1 := k1.all12.1
  obtain ⟨A5, c5, hsl, hY⟩ := hx.slice_r Try.underlying27 byte_size (r := k) hkl
  have hsl2 := fun W => hsl W (k : Int) rfl
  clear hsl
  go_wp2_with fail
  refine (KC.read A5 k c5 _ _ hY (by omega)).mono ?_
  rintro e w5 ⟨A8, a8, B8, b8, C8, c8, rfl, hq, hb⟩
  clear hsl2 hY
  rw [← HK.out, HRR1.out] at hq ⊢
  rw [HR1.out.1]
  dsimp only [pkV]
  try rw [HK.out]
  clear fk1
  replace h1 := h1.below hb
  replace hs1 := hs1.below hb
  replace k1 := k1.call hb
  replace hx := hx.below hb
  replace hB := hB.trans (hb.mono hB.size)
  clear hb
  have k8 := Box.new w5 [.bool r1.hd.pad, .bool r1.hd.ext, .bool r1.hd.mark, .int .i64 r1.hd.typ, .int .u16 r1.hd.seq, .int .u32 r1.hd.time, .int .u32 r1.hd.ssrc, .slice A8 r1.hd.csrc.length a8, .int .u16 r1.prof, .slice B8 r1.ext.length b8, .slice C8 r1.pay.length c8, .int .i64 r1.pad] 29
  replace h1 := h1.alloc (.cells #[.bool r1.hd.pad, .bool r1.hd.ext, .bool r1.hd.mark, .int .i64 r1.hd.typ, .int .u16 r1.hd.seq, .int .u32 r1.hd.time, .int .u32 r1.hd.ssrc, .slice A8 r1.hd.csrc.length a8, .int .u16 r1.prof, .slice B8 r1.ext.length b8, .slice C8 r1.pay.length c8, .int .i64 r1.pad] 29)
  replace hs1 := hs1.alloc (.cells #[.bool r1.hd.pad, .bool r1.hd.ext, .bool r1.hd.mark, .int .i64 r1.hd.typ, .int .u16 r1.hd.seq, .int .u32 r1.hd.time, .int .u32 r1.hd.ssrc, .slice A8 r1.hd.csrc.length a8, .int .u16 r1.prof, .slice B8 r1.ext.length b8, .slice C8 r1.pay.length c8, .int .i64 r1.pad] 29)
  replace k1 := k1.alloc (.cells #[.bool r1.hd.pad, .bool r1.hd.ext, .bool r1.hd.mark, .int .i64 r1.hd.typ, .int .u16 r1.hd.seq, .int .u32 r1.hd.time, .int .u32 r1.hd.ssrc, .slice A8 r1.hd.csrc.length a8, .int .u16 r1.prof, .slice B8 r1.ext.length b8, .slice C8 r1.pay.length c8, .int .i64 r1.pad] 29)
  replace hx := hx.alloc (.cells #[.bool r1.hd.pad, .bool r1.hd.ext, .bool r1.hd.mark, .int .i64 r1.hd.typ, .int .u16 r1.hd.seq, .int .u32 r1.hd.time, .int .u32 r1.hd.ssrc, .slice A8 r1.hd.csrc.length a8, .int .u16 r1.prof, .slice B8 r1.ext.length b8, .slice C8 r1.pay.length c8, .int .i64 r1.pad] 29)
  replace hq := hq.alloc (.cells #[.bool r1.hd.pad, .bool r1.hd.ext, .bool r1.hd.mark, .int .i64 r1.hd.typ, .int .u16 r1.hd.seq, .int .u32 r1.hd.time, .int .u32 r1.hd.ssrc, .slice A8 r1.hd.csrc.length a8, .int .u16 r1.prof, .slice B8 r1.ext.length b8, .slice C8 r1.pay.length c8, .int .i64 r1.pad] 29)
  replace hB := hB.alloc hB.size (.cells #[.bool r1.hd.pad, .bool r1.hd.ext, .bool r1.hd.mark, .int .i64 r1.hd.typ, .int .u16 r1.hd.seq, .int .u32 r1.hd.time, .int .u32 r1.hd.ssrc, .slice A8 r1.hd.csrc.length a8, .int .u16 r1.prof, .slice B8 r1.ext.length b8, .slice C8 r1.pay.length c8, .int .i64 r1.pad] 29)
  have fk1 := k1.all12.1
  have fk8 := k8.all12.1
  go_wp2_with fail
  refine (rsameP_told p A n c B lb cb C lc cc r1 A8 r1.hd.csrc.length a8 B8 r1.ext.length b8 C8 r1.pay.length c8 _ h1 hq false (decide_eq_false (fun e => HR1.out.2 e.symm))).mono ?_
  rintro e w6 ⟨rfl, hb⟩
  clear fk1
  clear fk8
  replace h1 := h1.below hb
  replace hs1 := hs1.below hb
  replace k1 := k1.call hb
  replace hx := hx.below hb
  replace hq := hq.below hb
  replace k8 := k8.call hb
  replace hB := hB.trans (hb.mono hB.size)
  clear hb
  have fk1 := k1.all12.1
  have fk8 := k8.all12.1
  go_wp2_with fail
  refine (size_told KC r1 A8 r1.hd.csrc.length a8 B8 r1.ext.length b8 C8 r1.pay.length c8 _ (hok8.out _ _ _ _ _ _ _ hq) (k : Int) HSZ.out).mono ?_
  rintro e w7 ⟨rfl, hb⟩
  clear fk1
  clear fk8
  replace h1 := h1.below hb
  replace hs1 := hs1.below hb
  replace k1 := k1.call hb
  replace hx := hx.below hb
  replace hq := hq.below hb
  replace k8 := k8.call hb
  replace hB := hB.trans (hb.mono hB.size)
  clear hb
  have fk1 := k1.all12.1
  have fk8 := k8.all12.1
  generalize hwz : w7 = wz at *
  clear hwz
  go_wp2_with (at_builtin; first
    | (refine wpList_app _ rfl (.tmp 94) (.tmp 95) 27 rfl wz.heap.size 5 Try.underlying27 byte_info (some ⟨wz.heap.size, 0, none⟩) 0 0 [] rfl (own_empty wz _ _ (Nat.le_refl _)) A4 X.length c4 X rfl (hx.alloc _) (by omega) (by simp) ?_; intro A6 c6 w6 hown6 hb6; rw [Nat.zero_add] at hown6; rw [List.nil_append] at hown6; replace hb6 : Below wz.heap.size wz w6 := ((Below.refl _ wz).alloc (Nat.le_refl _) _).trans hb6; have hsz6 := hb6.size; rw [Nat.zero_add])
    | go_loud (refine wpList_app _ rfl (.tmp 96) (.tmp 97) 27 rfl wz.heap.size 5 Try.underlying27 byte_info A6 X.length c6 X rfl hown6 D ld cd m rfl (hs1.below hb6) (by omega) (by omega) ?_; intro A7 c7 w9 hown7 hb7))
  have hb := hb6.trans hb7
  clear hown6 hb6 hb7 hsz6
  clear fk1
  clear fk8
  clear k8 hq
  have fk1 := k1.all12.1
  clear fk1
  replace h1 := h1.below hb
  replace hs1 := hs1.below hb
  replace k1 := k1.call hb
  replace hx := hx.below hb
  replace hB := hB.trans (hb.mono hB.size)
  clear hb
  refine (KC.read A7 (X.length + ld) c7 (X ++ m) _ hown7.bs (by omega)).mono ?_
  rintro e w10 ⟨A9, a9, B9, b9, C9, c9, rfl, hv, hb⟩
  rw [HR2.out.2.1] at hv ⊢
  rw [HR2.out.1]
  dsimp only [pkV]
  replace h1 := h1.below hb
  replace hs1 := hs1.below hb
  replace k1 := k1.call hb
  replace hx := hx.below hb
  replace hB := hB.trans (hb.mono hB.size)
  clear hb
  have k9 := Box.new w10 [.bool r2.hd.pad, .bool r2.hd.ext, .bool r2.hd.mark, .int .i64 r2.hd.typ, .int .u16 r2.hd.seq, .int .u32 r2.hd.time, .int .u32 r2.hd.ssrc, .slice A9 r2.hd.csrc.length a9, .int .u16 r2.prof, .slice B9 r2.ext.length b9, .slice C9 r2.pay.length c9, .int .i64 r2.pad] 29
  replace h1 := h1.alloc (.cells #[.bool r2.hd.pad, .bool r2.hd.ext, .bool r2.hd.mark, .int .i64 r2.hd.typ, .int .u16 r2.hd.seq, .int .u32 r2.hd.time, .int .u32 r2.hd.ssrc, .slice A9 r2.hd.csrc.length a9, .int .u16 r2.prof, .slice B9 r2.ext.length b9, .slice C9 r2.pay.length c9, .int .i64 r2.pad] 29)
  replace hs1 := hs1.alloc (.cells #[.bool r2.hd.pad, .bool r2.hd.ext, .bool r2.hd.mark, .int .i64 r2.hd.typ, .int .u16 r2.hd.seq, .int .u32 r2.hd.time, .int .u32 r2.hd.ssrc, .slice A9 r2.hd.csrc.length a9, .int .u16 r2.prof, .slice B9 r2.ext.length b9, .slice C9 r2.pay.length c9, .int .i64 r2.pad] 29)
  replace k1 := k1.alloc (.cells #[.bool r2.hd.pad, .bool r2.hd.ext, .bool r2.hd.mark, .int .i64 r2.hd.typ, .int .u16 r2.hd.seq, .int .u32 r2.hd.time, .int .u32 r2.hd.ssrc, .slice A9 r2.hd.csrc.length a9, .int .u16 r2.prof, .slice B9 r2.ext.length b9, .slice C9 r2.pay.length c9, .int .i64 r2.pad] 29)
  replace hx := hx.alloc (.cells #[.bool r2.hd.pad, .bool r2.hd.ext, .bool r2.hd.mark, .int .i64 r2.hd.typ, .int .u16 r2.hd.seq, .int .u32 r2.hd.time, .int .u32 r2.hd.ssrc, .slice A9 r2.hd.csrc.length a9, .int .u16 r2.prof, .slice B9 r2.ext.length b9, .slice C9 r2.pay.length c9, .int .i64 r2.pad] 29)
  replace hv := hv.alloc (.cells #[.bool r2.hd.pad, .bool r2.hd.ext, .bool r2.hd.mark, .int .i64 r2.hd.typ, .int .u16 r2.hd.seq, .int .u32 r2.hd.time, .int .u32 r2.hd.ssrc, .slice A9 r2.hd.csrc.length a9, .int .u16 r2.prof, .slice B9 r2.ext.length b9, .slice C9 r2.pay.length c9, .int .i64 r2.pad] 29)
  replace hB := hB.alloc hB.size (.cells #[.bool r2.hd.pad, .bool r2.hd.ext, .bool r2.hd.mark, .int .i64 r2.hd.typ, .int .u16 r2.hd.seq, .int .u32 r2.hd.time, .int .u32 r2.hd.ssrc, .slice A9 r2.hd.csrc.length a9, .int .u16 r2.prof, .slice B9 r2.ext.length b9, .slice C9 r2.pay.length c9, .int .i64 r2.pad] 29)
  have fk1 := k1.all12.1
  have fk9 := k9.all12.1
  go_wp2_with fail
  refine (rsameP_told p A n c B lb cb C lc cc r2 A9 r2.hd.csrc.length a9 B9 r2.ext.length b9 C9 r2.pay.length c9 _ h1 hv false (decide_eq_false (fun e => HR2.out.2.2 e.symm))).mono ?_
  rintro e w11 ⟨rfl, hb⟩
  replace hB := hB.trans (hb.mono hB.size)
  clear fk1 fk9
  go_wp2_with fail
  go_ret
  exact ⟨by first | rfl | simp_all, hB⟩

set_option maxRecDepth 100000 in
set_option maxHeartbeats 4000000 in
theorem packetCut_z_f (p : Pk) (A : Option Addr) (n c : Nat) (B : Option Addr) (lb cb : Nat) (C : Option Addr) (lc cc : Nat) (cut : Nat) (D : Option Addr) (ld cd : Nat) (m : List UInt8) (w : World) (h : PkIn w p A n c B lb cb C lc cc) (hs : Bs w D ld cd m) (hn : n ≤ 99) (hlb : lb ≤ 3000) (hlc : lc ≤ 3000) (hld : ld ≤ 3000) (hcut : cut < 65536) (hf : fitsP p) (ht : (Lit.int .i64 p.hd.typ).wf = true) (hp : (Lit.int .i64 p.pad).wf = true) (hr : rightP p = true) (h1c : pErr ((packB p).take (cut % (packB p).length)) = 0) (h1k : 12 ≤ cut % (packB p).length) (h2l : 0 < ld) (h2c : pErr (packB p ++ m) = 5 ∧ p.hd.pad = true) :
    Calls Try.prog 5 #[pkV p A n c B lb cb C lc cc, .int .u16 cut, .slice D ld cd] w fun e w' => e = .returned (.bool true) ∧ Below w.heap.size w w' := by
  have hok := Lib.hid (fun (W : World) (h : PkIn W p A n c B lb cb C lc cc) => (⟨h, by omega, by omega, by omega, hf, ht, hp⟩ : PkOk W p A n c B lb cb C lc cc))
  have hsh : shortP p = true := by unfold shortP; rw [decide_eq_true_eq, h.us.len, h.ext.len, h.pay.len]; omega
  obtain ⟨hl1, hl2⟩ := packB_length_nat hr
  obtain ⟨hX, hE, hZ⟩ := writeP_yes (room := 65535) hr (by omega)
  have hx12 : 12 ≤ (packB p).length := by obtain ⟨T, hT⟩ := packB_head hr; rw [hT, List.length_append, headB_length]; omega
  obtain ⟨_, _, hcz⟩ := pack_cut hr hf (cut % (packB p).length) (Nat.mod_lt _ (by omega))
  obtain ⟨hne1, hsz1⟩ := hcz h1c
  obtain ⟨pr1, pf1⟩ := packOf_right h1c
  rw [← readP_of h1c] at pr1 pf1
  have HSZ : Hid (sizePE (readP ((packB p).take (cut % (packB p).length))) = ((cut % (packB p).length : Nat) : Int)) := Lib.hid ((if_pos pr1).trans hsz1)
  have hok8 : Hid (∀ (W : World) (A8 B8 C8 : Option Addr) (a8 b8 c8 : Nat), PkIn W (readP ((packB p).take (cut % (packB p).length))) A8 (readP ((packB p).take (cut % (packB p).length))).hd.csrc.length a8 B8 (readP ((packB p).take (cut % (packB p).length))).ext.length b8 C8 (readP ((packB p).take (cut % (packB p).length))).pay.length c8 → PkOk W (readP ((packB p).take (cut % (packB p).length))) A8 (readP ((packB p).take (cut % (packB p).length))).hd.csrc.length a8 B8 (readP ((packB p).take (cut % (packB p).length))).ext.length b8 C8 (readP ((packB p).take (cut % (packB p).length))).pay.length c8) := Lib.hid (pk_ok pr1 pf1)
  have HR1 := Lib.hid (And.intro h1c hne1)
  clear hcz hne1 hsz1 pr1 pf1 h1c
  obtain ⟨r1, hr1⟩ : ∃ r1, readP ((packB p).take (cut % (packB p).length)) = r1 := ⟨_, rfl⟩
  rw [hr1] at HR1 HSZ hok8
  have HRR1 := Lib.hid hr1
  clear hr1
  have hldz : ((ld : Int) == 0) = false := by rw [beq_eq_false_iff_ne]; omega
  have hz2 : readP (packB p ++ m) = zeroP := if_neg (by omega)
  have HR2 := Lib.hid (And.intro h2c.1 hz2)
  have hpd := Lib.hid h2c.2
  clear h2c hz2
  have HX := Lib.hid hX
  have HE := Lib.hid hE
  have hcm : Int.tmod (cut : Int) ((packB p).length : Int) = ((cut % (packB p).length : Nat) : Int) := by rw [Int.tmod_eq_emod_of_nonneg (by omega)]; omega
  have hkl : cut % (packB p).length ≤ (packB p).length := Nat.le_of_lt (Nat.mod_lt _ (by omega))
  have hcw : IntKind.i64.wrap (cut : Int) = (cut : Int) := IntWalk.i64_in _ (by omega)
  clear hX hE hZ hr hl1
  generalize packB p = X at *
  obtain ⟨k, hk⟩ : ∃ k, cut % X.length = k := ⟨_, rfl⟩
  rw [hk] at HSZ hcm hkl h1k
  have HK := Lib.hid hk
  clear hk
  have hk12 : decide ((k : Int) < 12) = false := decide_eq_false (by omega)
  unfold pkV
  have k1 := Box.new w [.bool p.hd.pad, .bool p.hd.ext, .bool p.hd.mark, .int .i64 p.hd.typ, .int .u16 p.hd.seq, .int .u32 p.hd.time, .int .u32 p.hd.ssrc, .slice A n c, .int .u16 p.prof, .slice B lb cb, .slice C lc cc, .int .i64 p.pad] 29
  have h1 := h.alloc (.cells #[.bool p.hd.pad, .bool p.hd.ext, .bool p.hd.mark, .int .i64 p.hd.typ, .int .u16 p.hd.seq, .int .u32 p.hd.time, .int .u32 p.hd.ssrc, .slice A n c, .int .u16 p.prof, .slice B lb cb, .slice C lc cc, .int .i64 p.pad] 29)
  have hs1 := hs.alloc (.cells #[.bool p.hd.pad, .bool p.hd.ext, .bool p.hd.mark, .int .i64 p.hd.typ, .int .u16 p.hd.seq, .int .u32 p.hd.time, .int .u32 p.hd.ssrc, .slice A n c, .int .u16 p.prof, .slice B lb cb, .slice C lc cc, .int .i64 p.pad] 29)
  have hB := below1 w (.cells #[.bool p.hd.pad, .bool p.hd.ext, .bool p.hd.mark, .int .i64 p.hd.typ, .int .u16 p.hd.seq, .int .u32 p.hd.time, .int .u32 p.hd.ssrc, .slice A n c, .int .u16 p.prof, .slice B lb cb, .slice C lc cc, .int .i64 p.pad] 29)
  go_enter Try.func5, Try.ntmps5
  go_wp2_with fail
  refine (awake_any KC _).mono ?_
  rintro e w2 ⟨rfl, hb⟩
  replace h1 := h1.below hb
  replace hs1 := hs1.below hb
  replace k1 := k1.call hb
  replace hB := hB.trans (hb.mono hB.size)
  clear hb
  have fk1 := k1.all12.1
  go_wp2_with fail
  refine (rshort_told p A n c B lb cb C lc cc _ h1 true hsh).mono ?_
  rintro e w3 ⟨rfl, hb⟩
  clear fk1
  replace h1 := h1.below hb
  replace hs1 := hs1.below hb
  replace k1 := k1.call hb
  replace hB := hB.trans (hb.mono hB.size)
  clear hb
  have fk1 := k1.all12.1
  go_wp2_with fail
  refine (write_told KC p A n c B lb cb C lc cc 65535 _ (hok.out _ h1) (by decide) X X.length 0 HX.out rfl HE.out).mono ?_
  rintro e w4 ⟨A4, c4, rfl, hx, hb⟩
  clear fk1
  replace h1 := h1.below hb
  replace hs1 := hs1.below hb
  replace k1 := k1.call hb
  replace hB := hB.trans (hb.mono hB.size)
  clear hb
  have fk1 := k1.all12.1
  obtain ⟨A5, c5, hsl, hY⟩ := hx.slice_r Try.underlying27 byte_size (r := k) hkl
  have hsl2 := fun W => hsl W (k : Int) rfl
  clear hsl
  go_wp2_with fail
  refine (KC.read A5 k c5 _ _ hY (by omega)).mono ?_
  rintro e w5 ⟨A8, a8, B8, b8, C8, c8, rfl, hq, hb⟩
  clear hsl2 hY
  rw [← HK.out, HRR1.out] at hq ⊢
  rw [HR1.out.1]
  dsimp only [pkV]
  try rw [HK.out]
  clear fk1
  replace h1 := h1.below hb
  replace hs1 := hs1.below hb
  replace k1 := k1.call hb
  replace hx := hx.below hb
  replace hB := hB.trans (hb.mono hB.size)
  clear hb
  have k8 := Box.new w5 [.bool r1.hd.pad, .bool r1.hd.ext, .bool r1.hd.mark, .int .i64 r1.hd.typ, .int .u16 r1.hd.seq, .int .u32 r1.hd.time, .int .u32 r1.hd.ssrc, .slice A8 r1.hd.csrc.length a8, .int .u16 r1.prof, .slice B8 r1.ext.length b8, .slice C8 r1.pay.length c8, .int .i64 r1.pad] 29
  replace h1 := h1.alloc (.cells #[.bool r1.hd.pad, .bool r1.hd.ext, .bool r1.hd.mark, .int .i64 r1.hd.typ, .int .u16 r1.hd.seq, .int .u32 r1.hd.time, .int .u32 r1.hd.ssrc, .slice A8 r1.hd.csrc.length a8, .int .u16 r1.prof, .slice B8 r1.ext.length b8, .slice C8 r1.pay.length c8, .int .i64 r1.pad] 29)
  replace hs1 := hs1.alloc (.cells #[.bool r1.hd.pad, .bool r1.hd.ext, .bool r1.hd.mark, .int .i64 r1.hd.typ, .int .u16 r1.hd.seq, .int .u32 r1.hd.time, .int .u32 r1.hd.ssrc, .slice A8 r1.hd.csrc.length a8, .int .u16 r1.prof, .slice B8 r1.ext.length b8, .slice C8 r1.pay.length c8, .int .i64 r1.pad] 29)
  replace k1 := k1.alloc (.cells #[.bool r1.hd.pad, .bool r1.hd.ext, .bool r1.hd.mark, .int .i64 r1.hd.typ, .int .u16 r1.hd.seq, .int .u32 r1.hd.time, .int .u32 r1.hd.ssrc, .slice A8 r1.hd.csrc.length a8, .int .u16 r1.prof, .slice B8 r1.ext.length b8, .slice C8 r1.pay.length c8, .int .i64 r1.pad] 29)
  replace hx := hx.alloc (.cells #[.bool r1.hd.pad, .bool r1.hd.ext, .bool r1.hd.mark, .int .i64 r1.hd.typ, .int .u16 r1.hd.seq, .int .u32 r1.hd.time, .int .u32 r1.hd.ssrc, .slice A8 r1.hd.csrc.length a8, .int .u16 r1.prof, .slice B8 r1.ext.length b8, .slice C8 r1.pay.length c8, .int .i64 r1.pad] 29)
  replace hq := hq.alloc (.cells #[.bool r1.hd.pad, .bool r1.hd.ext, .bool r1.hd.mark, .int .i64 r1.hd.typ, .int .u16 r1.hd.seq, .int .u32 r1.hd.time, .int .u32 r1.hd.ssrc, .slice A8 r1.hd.csrc.length a8, .int .u16 r1.prof, .slice B8 r1.ext.length b8, .slice C8 r1.pay.length c8, .int .i64 r1.pad] 29)
  replace hB := hB.alloc hB.size (.cells #[.bool r1.hd.pad, .bool r1.hd.ext, .bool r1.hd.mark, .int .i64 r1.hd.typ, .int .u16 r1.hd.seq, .int .u32 r1.hd.time, .int .u32 r1.hd.ssrc, .slice A8 r1.hd.csrc.length a8, .int .u16 r1.prof, .slice B8 r1.ext.length b8, .slice C8 r1.pay.length c8, .int .i64 r1.pad] 29)
  have fk1 := k1.all12.1
  have fk8 := k8.all12.1
  go_wp2_with fail
  refine (rsameP_told p A n c B lb cb C lc cc r1 A8 r1.hd.csrc.length a8 B8 r1.ext.length b8 C8 r1.pay.length c8 _ h1 hq false (decide_eq_false (fun e => HR1.out.2 e.symm))).mono ?_
  rintro e w6 ⟨rfl, hb⟩
  clear fk1
  clear fk8
  replace h1 := h1.below hb
  replace hs1 := hs1.below hb
  replace k1 := k1.call hb
  replace hx := hx.below hb
  replace hq := hq.below hb
  replace k8 := k8.call hb
  replace hB := hB.trans (hb.mono hB.size)
  clear hb
  have fk1 := k1.all12.1
  have fk8 := k8.all12.1
  go_wp2_with fail
  refine (size_told KC r1 A8 r1.hd.csrc.length a8 B8 r1.ext.length b8 C8 r1.pay.length c8 _ (hok8.out _ _ _ _ _ _ _ hq) (k : Int) HSZ.out).mono ?_
  rintro e w7 ⟨rfl, hb⟩
  clear fk1
  clear fk8
  replace h1 := h1.below hb
  replace hs1 := hs1.below hb
  replace k1 := k1.call hb
  replace hx := hx.below hb
  replace hq := hq.below hb
  replace k8 := k8.call hb
  replace hB := hB.trans (hb.mono hB.size)
  clear hb
  have fk1 := k1.all12.1
  have fk8 := k8.all12.1
  generalize hwz : w7 = wz at *
  clear hwz
  go_wp2_with (at_builtin; first
    | (refine wpList_app _ rfl (.tmp 94) (.tmp 95) 27 rfl wz.heap.size 5 Try.underlying27 byte_info (some ⟨wz.heap.size, 0, none⟩) 0 0 [] rfl (own_empty wz _ _ (Nat.le_refl _)) A4 X.length c4 X rfl (hx.alloc _) (by omega) (by simp) ?_; intro A6 c6 w6 hown6 hb6; rw [Nat.zero_add] at hown6; rw [List.nil_append] at hown6; replace hb6 : Below wz.heap.size wz w6 := ((Below.refl _ wz).alloc (Nat.le_refl _) _).trans hb6; have hsz6 := hb6.size; rw [Nat.zero_add])
    | go_loud (refine wpList_app _ rfl (.tmp 96) (.tmp 97) 27 rfl wz.heap.size 5 Try.underlying27 byte_info A6 X.length c6 X rfl hown6 D ld cd m rfl (hs1.below hb6) (by omega) (by omega) ?_; intro A7 c7 w9 hown7 hb7))
  have hb := hb6.trans hb7
  clear hown6 hb6 hb7 hsz6
  clear fk1
  clear fk8
  clear k8 hq
  have fk1 := k1.all12.1
  clear fk1
  replace h1 := h1.below hb
  replace hs1 := hs1.below hb
  replace k1 := k1.call hb
  replace hx := hx.below hb
  replace hB := hB.trans (hb.mono hB.size)
  clear hb
  refine (KC.read A7 (X.length + ld) c7 (X ++ m) _ hown7.bs (by omega)).mono ?_
  rintro e w10 ⟨A9, a9, B9, b9, C9, c9, rfl, hv, hb⟩
  rw [HR2.out.2] at hv ⊢
  rw [HR2.out.1]
  dsimp only [pkV, zeroP, zeroH, List.length_nil] at hv ⊢
  replace h1 := h1.below hb
  replace hs1 := hs1.below hb
  replace k1 := k1.call hb
  replace hx := hx.below hb
  replace hB := hB.trans (hb.mono hB.size)
  clear hb
  have k9 := Box.new w10 [.bool false, .bool false, .bool false, .int .i64 0, .int .u16 0, .int .u32 0, .int .u32 0, .slice A9 0 a9, .int .u16 0, .slice B9 0 b9, .slice C9 0 c9, .int .i64 0] 29
  replace h1 := h1.alloc (.cells #[.bool false, .bool false, .bool false, .int .i64 0, .int .u16 0, .int .u32 0, .int .u32 0, .slice A9 0 a9, .int .u16 0, .slice B9 0 b9, .slice C9 0 c9, .int .i64 0] 29)
  replace hs1 := hs1.alloc (.cells #[.bool false, .bool false, .bool false, .int .i64 0, .int .u16 0, .int .u32 0, .int .u32 0, .slice A9 0 a9, .int .u16 0, .slice B9 0 b9, .slice C9 0 c9, .int .i64 0] 29)
  replace k1 := k1.alloc (.cells #[.bool false, .bool false, .bool false, .int .i64 0, .int .u16 0, .int .u32 0, .int .u32 0, .slice A9 0 a9, .int .u16 0, .slice B9 0 b9, .slice C9 0 c9, .int .i64 0] 29)
  replace hx := hx.alloc (.cells #[.bool false, .bool false, .bool false, .int .i64 0, .int .u16 0, .int .u32 0, .int .u32 0, .slice A9 0 a9, .int .u16 0, .slice B9 0 b9, .slice C9 0 c9, .int .i64 0] 29)
  replace hB := hB.alloc hB.size (.cells #[.bool false, .bool false, .bool false, .int .i64 0, .int .u16 0, .int .u32 0, .int .u32 0, .slice A9 0 a9, .int .u16 0, .slice B9 0 b9, .slice C9 0 c9, .int .i64 0] 29)
  have fk1 := k1.all12.1
  have fk9 := k9.all12.1
  rw [hpd.out] at fk1
  go_wp2_with fail
  go_ret
  exact ⟨by first | rfl | simp_all, hB⟩

set_option maxRecDepth 100000 in
set_option maxHeartbeats 4000000 in
theorem packetCut_p_e (p : Pk) (A : Option Addr) (n c : Nat) (B : Option Addr) (lb cb : Nat) (C : Option Addr) (lc cc : Nat) (cut : Nat) (D : Option Addr) (ld cd : Nat) (m : List UInt8) (w : World) (h : PkIn w p A n c B lb cb C lc cc) (hs : Bs w D ld cd m) (hn : n ≤ 99) (hlb : lb ≤ 3000) (hlc : lc ≤ 3000) (hld : ld ≤ 3000) (hcut : cut < 65536) (hf : fitsP p) (ht : (Lit.int .i64 p.hd.typ).wf = true) (hp : (Lit.int .i64 p.pad).wf = true) (hr : rightP p = true) (h1c : pErr ((packB p).take (cut % (packB p).length)) = 5) (h1k : 12 ≤ cut % (packB p).length) (h2c : ld = 0) :
    Calls Try.prog 5 #[pkV p A n c B lb cb C lc cc, .int .u16 cut, .slice D ld cd] w fun e w' => e = .returned (.bool true) ∧ Below w.heap.size w w' := by
  have hok := Lib.hid (fun (W : World) (h : PkIn W p A n c B lb cb C lc cc) => (⟨h, by omega, by omega, by omega, hf, ht, hp⟩ : PkOk W p A n c B lb cb C lc cc))
  have hsh : shortP p = true := by unfold shortP; rw [decide_eq_true_eq, h.us.len, h.ext.len, h.pay.len]; omega
  obtain ⟨hl1, hl2⟩ := packB_length_nat hr
  obtain ⟨hX, hE, hZ⟩ := writeP_yes (room := 65535) hr (by omega)
  have hx12 : 12 ≤ (packB p).length := by obtain ⟨T, hT⟩ := packB_head hr; rw [hT, List.length_append, headB_length]; omega
  have hz1 : readP ((packB p).take (cut % (packB p).length)) = zeroP := if_neg (by omega)
  have HR1 := Lib.hid (And.intro h1c hz1)
  clear hz1 h1c
  have hm0 : m = [] := List.eq_nil_of_length_eq_zero (by rw [hs.len]; exact h2c)
  obtain ⟨hrd1, hrd2⟩ := read_pack hr hf
  have HR2 : Hid (pErr (packB p ++ m) = 0 ∧ readP (packB p ++ m) = p) := Lib.hid (by rw [hm0, List.append_nil]; exact ⟨hrd1, hrd2⟩)
  have hldz : ((ld : Int) == 0) = true := by rw [beq_iff_eq]; omega
  clear hm0 hrd1 hrd2 h2c
  have HX := Lib.hid hX
  have HE := Lib.hid hE
  have hcm : Int.tmod (cut : Int) ((packB p).length : Int) = ((cut % (packB p).length : Nat) : Int) := by rw [Int.tmod_eq_emod_of_nonneg (by omega)]; omega
  have hkl : cut % (packB p).length ≤ (packB p).length := Nat.le_of_lt (Nat.mod_lt _ (by omega))
  have hcw : IntKind.i64.wrap (cut : Int) = (cut : Int) := IntWalk.i64_in _ (by omega)
  clear hX hE hZ hr hl1
  generalize packB p = X at *
  obtain ⟨k, hk⟩ : ∃ k, cut % X.length = k := ⟨_, rfl⟩
  rw [hk] at hcm hkl h1k
  have HK := Lib.hid hk
  clear hk
  have hk12 : decide ((k : Int) < 12) = false := decide_eq_false (by omega)
  unfold pkV
  have k1 := Box.new w [.bool p.hd.pad, .bool p.hd.ext, .bool p.hd.mark, .int .i64 p.hd.typ, .int .u16 p.hd.seq, .int .u32 p.hd.time, .int .u32 p.hd.ssrc, .slice A n c, .int .u16 p.prof, .slice B lb cb, .slice C lc cc, .int .i64 p.pad] 29
  have h1 := h.alloc (.cells #[.bool p.hd.pad, .bool p.hd.ext, .bool p.hd.mark, .int .i64 p.hd.typ, .int .u16 p.hd.seq, .int .u32 p.hd.time, .int .u32 p.hd.ssrc, .slice A n c, .int .u16 p.prof, .slice B lb cb, .slice C lc cc, .int .i64 p.pad] 29)
  have hs1 := hs.alloc (.cells #[.bool p.hd.pad, .bool p.hd.ext, .bool p.hd.mark, .int .i64 p.hd.typ, .int .u16 p.hd.seq, .int .u32 p.hd.time, .int .u32 p.hd.ssrc, .slice A n c, .int .u16 p.prof, .slice B lb cb, .slice C lc cc, .int .i64 p.pad] 29)
  have hB := below1 w (.cells #[.bool p.hd.pad, .bool p.hd.ext, .bool p.hd.mark, .int .i64 p.hd.typ, .int .u16 p.hd.seq, .int .u32 p.hd.time, .int .u32 p.hd.ssrc, .slice A n c, .int .u16 p.prof, .slice B lb cb, .slice C lc cc, .int .i64 p.pad] 29)
  go_enter Try.func5, Try.ntmps5
  go_wp2_with fail
  refine (awake_any KC _).mono ?_
  rintro e w2 ⟨rfl, hb⟩
  replace h1 := h1.below hb
  replace hs1 := hs1.below hb
  replace k1 := k1.call hb
  replace hB := hB.trans (hb.mono hB.size)
  clear hb
  have fk1 := k1.all12.1
  go_wp2_with fail
  refine (rshort_told p A n c B lb cb C lc cc _ h1 true hsh).mono ?_
  rintro e w3 ⟨rfl, hb⟩
  clear fk1
  replace h1 := h1.below hb
  replace hs1 := hs1.below hb
  replace k1 := k1.call hb
  replace hB := hB.trans (hb.mono hB.size)
  clear hb
  have fk1 := k1.all12.1
  go_wp2_with fail
  refine (write_told KC p A n c B lb cb C lc cc 65535 _ (hok.out _ h1) (by decide) X X.length 0 HX.out rfl HE.out).mono ?_
  rintro e w4 ⟨A4, c4, rfl, hx, hb⟩
  clear fk1
  replace h1 := h1.below hb
  replace hs1 := hs1.below hb
  replace k1 := k1.call hb
  replace hB := hB.trans (hb.mono hB.size)
  clear hb
  have fk1 := k1.all12.1
  obtain ⟨A5, c5, hsl, hY⟩ := hx.slice_r Try.underlying27 byte_size (r := k) hkl
  have hsl2 := fun W => hsl W (k : Int) rfl
  clear hsl
  go_wp2_with fail
  refine (KC.read A5 k c5 _ _ hY (by omega)).mono ?_
  rintro e w5 ⟨A8, a8, B8, b8, C8, c8, rfl, hq, hb⟩
  clear hsl2 hY
  rw [← HK.out, HR1.out.2] at hq ⊢
  rw [HR1.out.1]
  dsimp only [pkV, zeroP, zeroH, List.length_nil] at hq ⊢
  try rw [HK.out]
  clear fk1
  replace h1 := h1.below hb
  replace hs1 := hs1.below hb
  replace k1 := k1.call hb
  replace hx := hx.below hb
  replace hB := hB.trans (hb.mono hB.size)
  clear hb
  have k8 := Box.new w5 [.bool false, .bool false, .bool false, .int .i64 0, .int .u16 0, .int .u32 0, .int .u32 0, .slice A8 0 a8, .int .u16 0, .slice B8 0 b8, .slice C8 0 c8, .int .i64 0] 29
  replace h1 := h1.alloc (.cells #[.bool false, .bool false, .bool false, .int .i64 0, .int .u16 0, .int .u32 0, .int .u32 0, .slice A8 0 a8, .int .u16 0, .slice B8 0 b8, .slice C8 0 c8, .int .i64 0] 29)
  replace hs1 := hs1.alloc (.cells #[.bool false, .bool false, .bool false, .int .i64 0, .int .u16 0, .int .u32 0, .int .u32 0, .slice A8 0 a8, .int .u16 0, .slice B8 0 b8, .slice C8 0 c8, .int .i64 0] 29)
  replace k1 := k1.alloc (.cells #[.bool false, .bool false, .bool false, .int .i64 0, .int .u16 0, .int .u32 0, .int .u32 0, .slice A8 0 a8, .int .u16 0, .slice B8 0 b8, .slice C8 0 c8, .int .i64 0] 29)
  replace hx := hx.alloc (.cells #[.bool false, .bool false, .bool false, .int .i64 0, .int .u16 0, .int .u32 0, .int .u32 0, .slice A8 0 a8, .int .u16 0, .slice B8 0 b8, .slice C8 0 c8, .int .i64 0] 29)
  replace hB := hB.alloc hB.size (.cells #[.bool false, .bool false, .bool false, .int .i64 0, .int .u16 0, .int .u32 0, .int .u32 0, .slice A8 0 a8, .int .u16 0, .slice B8 0 b8, .slice C8 0 c8, .int .i64 0] 29)
  have fk1 := k1.all12.1
  have fk8 := k8.all12.1
  go_upto_region 14 with fail
  generalize hwz : (w5.alloc (.cells #[.bool false, .bool false, .bool false, .int .i64 0, .int .u16 0, .int .u32 0, .int .u32 0, .slice A8 0 a8, .int .u16 0, .slice B8 0 b8, .slice C8 0 c8, .int .i64 0] 29)) = wz at *
  clear hwz
  go_wp2_with (at_builtin; first
    | (refine wpList_app _ rfl (.tmp 94) (.tmp 95) 27 rfl wz.heap.size 5 Try.underlying27 byte_info (some ⟨wz.heap.size, 0, none⟩) 0 0 [] rfl (own_empty wz _ _ (Nat.le_refl _)) A4 X.length c4 X rfl (hx.alloc _) (by omega) (by simp) ?_; intro A6 c6 w6 hown6 hb6; rw [Nat.zero_add] at hown6; rw [List.nil_append] at hown6; replace hb6 : Below wz.heap.size wz w6 := ((Below.refl _ wz).alloc (Nat.le_refl _) _).trans hb6; have hsz6 := hb6.size; rw [Nat.zero_add])
    | go_loud (refine wpList_app _ rfl (.tmp 96) (.tmp 97) 27 rfl wz.heap.size 5 Try.underlying27 byte_info A6 X.length c6 X rfl hown6 D ld cd m rfl (hs1.below hb6) (by omega) (by omega) ?_; intro A7 c7 w9 hown7 hb7))
  have hb := hb6.trans hb7
  clear hown6 hb6 hb7 hsz6
  clear fk1
  clear fk8
  clear k8
  have fk1 := k1.all12.1
  clear fk1
  replace h1 := h1.below hb
  replace hs1 := hs1.below hb
  replace k1 := k1.call hb
  replace hx := hx.below hb
  replace hB := hB.trans (hb.mono hB.size)
  clear hb
  refine (KC.read A7 (X.length + ld) c7 (X ++ m) _ hown7.bs (by omega)).mono ?_
  rintro e w10 ⟨A9, a9, B9, b9, C9, c9, rfl, hv, hb⟩
  rw [HR2.out.2] at hv ⊢
  rw [HR2.out.1]
  dsimp only [pkV]
  replace h1 := h1.below hb
  replace hs1 := hs1.below hb
  replace k1 := k1.call hb
  replace hx := hx.below hb
  replace hB := hB.trans (hb.mono hB.size)
  clear hb
  have k9 := Box.new w10 [.bool p.hd.pad, .bool p.hd.ext, .bool p.hd.mark, .int .i64 p.hd.typ, .int .u16 p.hd.seq, .int .u32 p.hd.time, .int .u32 p.hd.ssrc, .slice A9 p.hd.csrc.length a9, .int .u16 p.prof, .slice B9 p.ext.length b9, .slice C9 p.pay.length c9, .int .i64 p.pad] 29
  replace h1 := h1.alloc (.cells #[.bool p.hd.pad, .bool p.hd.ext, .bool p.hd.mark, .int .i64 p.hd.typ, .int .u16 p.hd.seq, .int .u32 p.hd.time, .int .u32 p.hd.ssrc, .slice A9 p.hd.csrc.length a9, .int .u16 p.prof, .slice B9 p.ext.length b9, .slice C9 p.pay.length c9, .int .i64 p.pad] 29)
  replace hs1 := hs1.alloc (.cells #[.bool p.hd.pad, .bool p.hd.ext, .bool p.hd.mark, .int .i64 p.hd.typ, .int .u16 p.hd.seq, .int .u32 p.hd.time, .int .u32 p.hd.ssrc, .slice A9 p.hd.csrc.length a9, .int .u16 p.prof, .slice B9 p.ext.length b9, .slice C9 p.pay.length c9, .int .i64 p.pad] 29)
  replace k1 := k1.alloc (.cells #[.bool p.hd.pad, .bool p.hd.ext, .bool p.hd.mark, .int .i64 p.hd.typ, .int .u16 p.hd.seq, .int .u32 p.hd.time, .int .u32 p.hd.ssrc, .slice A9 p.hd.csrc.length a9, .int .u16 p.prof, .slice B9 p.ext.length b9, .slice C9 p.pay.length c9, .int .i64 p.pad] 29)
  replace hx := hx.alloc (.cells #[.bool p.hd.pad, .bool p.hd.ext, .bool p.hd.mark, .int .i64 p.hd.typ, .int .u16 p.hd.seq, .int .u32 p.hd.time, .int .u32 p.hd.ssrc, .slice A9 p.hd.csrc.length a9, .int .u16 p.prof, .slice B9 p.ext.length b9, .slice C9 p.pay.length c9, .int .i64 p.pad] 29)
  replace hv := hv.alloc (.cells #[.bool p.hd.pad, .bool p.hd.ext, .bool p.hd.mark, .int .i64 p.hd.typ, .int .u16 p.hd.seq, .int .u32 p.hd.time, .int .u32 p.hd.ssrc, .slice A9 p.hd.csrc.length a9, .int .u16 p.prof, .slice B9 p.ext.length b9, .slice C9 p.pay.length c9, .int .i64 p.pad] 29)
  replace hB := hB.alloc hB.size (.cells #[.bool p.hd.pad, .bool p.hd.ext, .bool p.hd.mark, .int .i64 p.hd.typ, .int .u16 p.hd.seq, .int .u32 p.hd.time, .int .u32 p.hd.ssrc, .slice A9 p.hd.csrc.length a9, .int .u16 p.prof, .slice B9 p.ext.length b9, .slice C9 p.pay.length c9, .int .i64 p.pad] 29)
  have fk1 := k1.all12.1
  have fk9 := k9.all12.1
  go_wp2_with fail
  refine (rsameP_told p A n c B lb cb C lc cc p A9 p.hd.csrc.length a9 B9 p.ext.length b9 C9 p.pay.length c9 _ h1 hv true (decide_eq_true rfl)).mono ?_
  rintro e w11 ⟨rfl, hb⟩
  replace hB := hB.trans (hb.mono hB.size)
  clear fk1 fk9
  go_wp2_with fail
  go_ret
  exact ⟨by first | rfl | simp_all, hB⟩

set_option maxRecDepth 100000 in
set_option maxHeartbeats 4000000 in
theorem packetCut_p_q (p : Pk) (A : Option Addr) (n c : Nat) (B : Option Addr) (lb cb : Nat) (C : Option Addr) (lc cc : Nat) (cut : Nat) (D : Option Addr) (ld cd : Nat) (m : List UInt8) (w : World) (h : PkIn w p A n c B lb cb C lc cc) (hs : Bs w D ld cd m) (hn : n ≤ 99) (hlb : lb ≤ 3000) (hlc : lc ≤ 3000) (hld : ld ≤ 3000) (hcut : cut < 65536) (hf : fitsP p) (ht : (Lit.int .i64 p.hd.typ).wf = true) (hp : (Lit.int .i64 p.pad).wf = true) (hr : rightP p = true) (h1c : pErr ((packB p).take (cut % (packB p).length)) = 5) (h1k : 12 ≤ cut % (packB p).length) (h2l : 0 < ld) (h2c : pErr (packB p ++ m) = 0 ∧ readP (packB p ++ m) ≠ p) :
    Calls Try.prog 5 #[pkV p A n c B lb cb C lc cc, .int .u16 cut, .slice D ld cd] w fun e w' => e = .returned (.bool true) ∧ Below w.heap.size w w' := by
  have hok := Lib.hid (fun (W : World) (h : PkIn W p A n c B lb cb C lc cc) => (⟨h, by omega, by omega, by omega, hf, ht, hp⟩ : PkOk W p A n c B lb cb C lc cc))
  have hsh : shortP p = true := by unfold shortP; rw [decide_eq_true_eq, h.us.len, h.ext.len, h.pay.len]; omega
  obtain ⟨hl1, hl2⟩ := packB_length_nat hr
  obtain ⟨hX, hE, hZ⟩ := writeP_yes (room := 65535) hr (by omega)
  have hx12 : 12 ≤ (packB p).length := by obtain ⟨T, hT⟩ := packB_head hr; rw [hT, List.length_append, headB_length]; omega
  have hz1 : readP ((packB p).take (cut % (packB p).length)) = zeroP := if_neg (by omega)
  have HR1 := Lib.hid (And.intro h1c hz1)
  clear hz1 h1c
  have hldz : ((ld : Int) == 0) = false := by rw [beq_eq_false_iff_ne]; omega
  obtain ⟨r2, hr2⟩ : ∃ r2, readP (packB p ++ m) = r2 := ⟨_, rfl⟩
  rw [hr2] at h2c
  have HR2 := Lib.hid (And.intro h2c.1 (And.intro hr2 h2c.2))
  clear h2c hr2
  have HX := Lib.hid hX
  have HE := Lib.hid hE
  have hcm : Int.tmod (cut : Int) ((packB p).length : Int) = ((cut % (packB p).length : Nat) : Int) := by rw [Int.tmod_eq_emod_of_nonneg (by omega)]; omega
  have hkl : cut % (packB p).length ≤ (packB p).length := Nat.le_of_lt (Nat.mod_lt _ (by omega))
  have hcw : IntKind.i64.wrap (cut : Int) = (cut : Int) := IntWalk.i64_in _ (by omega)
  clear hX hE hZ hr hl1
  generalize packB p = X at *
  obtain ⟨k, hk⟩ : ∃ k, cut % X.length = k := ⟨_, rfl⟩
  rw [hk] at hcm hkl h1k
  have HK := Lib.hid hk
  clear hk
  have hk12 : decide ((k : Int) < 12) = false := decide_eq_false (by omega)
  unfold pkV
  have k1 := Box.new w [.bool p.hd.pad, .bool p.hd.ext, .bool p.hd.mark, .int .i64 p.hd.typ, .int .u16 p.hd.seq, .int .u32 p.hd.time, .int .u32 p.hd.ssrc, .slice A n c, .int .u16 p.prof, .slice B lb cb, .slice C lc cc, .int .i64 p.pad] 29
  have h1 := h.alloc (.cells #[.bool p.hd.pad, .bool p.hd.ext, .bool p.hd.mark, .int .i64 p.hd.typ, .int .u16 p.hd.seq, .int .u32 p.hd.time, .int .u32 p.hd.ssrc, .slice A n c, .int .u16 p.prof, .slice B lb cb, .slice C lc cc, .int .i64 p.pad] 29)
  have hs1 := hs.alloc (.cells #[.bool p.hd.pad, .bool p.hd.ext, .bool p.hd.mark, .int .i64 p.hd.typ, .int .u16 p.hd.seq, .int .u32 p.hd.time, .int .u32 p.hd.ssrc, .slice A n c, .int .u16 p.prof, .slice B lb cb, .slice C lc cc, .int .i64 p.pad] 29)
  have hB := below1 w (.cells #[.bool p.hd.pad, .bool p.hd.ext, .bool p.hd.mark, .int .i64 p.hd.typ, .int .u16 p.hd.seq, .int .u32 p.hd.time, .int .u32 p.hd.ssrc, .slice A n c, .int .u16 p.prof, .slice B lb cb, .slice C lc cc, .int .i64 p.pad] 29)
  go_enter Try.func5, Try.ntmps5
  go_wp2_with fail
  refine (awake_any KC _).mono ?_
  rintro e w2 ⟨rfl, hb⟩
  replace h1 := h1.below hb
  replace hs1 := hs1.below hb
  replace k1 := k1.call hb
  replace hB := hB.trans (hb.mono hB.size)
  clear hb
  have fk1 := k1.all12.1
  go_wp2_with fail
  refine (rshort_told p A n c B lb cb C lc cc _ h1 true hsh).mono ?_
  rintro e w3 ⟨rfl, hb⟩
  clear fk1
  replace h1 := h1.below hb
  replace hs1 := hs1.below hb
  replace k1 := k1.call hb
  replace hB := hB.trans (hb.mono hB.size)
  clear hb
  have fk1 := k1.all12.1
  go_wp2_with fail
  refine (write_told KC p A n c B lb cb C lc cc 65535 _ (hok.out _ h1) (by decide) X X.length 0 HX.out rfl HE.out).mono ?_
  rintro e w4 ⟨A4, c4, rfl, hx, hb⟩
  clear fk1
  replace h1 := h1.below hb
  replace hs1 := hs1.below hb
  replace k1 := k1.call hb
  replace hB := hB.trans (hb.mono hB.size)
  clear hb
  have fk1 := k1.all12.1
  obtain ⟨A5, c5, hsl, hY⟩ := hx.slice_r Try.underlying27 byte_size (r := k) hkl
  have hsl2 := fun W => hsl W (k : Int) rfl
  clear hsl
  go_wp2_with fail
  refine (KC.read A5 k c5 _ _ hY (by omega)).mono ?_
  rintro e w5 ⟨A8, a8, B8, b8, C8, c8, rfl, hq, hb⟩
  clear hsl2 hY
  rw [← HK.out, HR1.out.2] at hq ⊢
  rw [HR1.out.1]
  dsimp only [pkV, zeroP, zeroH, List.length_nil] at hq ⊢
  try rw [HK.out]
  clear fk1
  replace h1 := h1.below hb
  replace hs1 := hs1.below hb
  replace k1 := k1.call hb
  replace hx := hx.below hb
  replace hB := hB.trans (hb.mono hB.size)
  clear hb
  have k8 := Box.new w5 [.bool false, .bool false, .bool false, .int .i64 0, .int .u16 0, .int .u32 0, .int .u32 0, .slice A8 0 a8, .int .u16 0, .slice B8 0 b8, .slice C8 0 c8, .int .i64 0] 29
  replace h1 := h1.alloc (.cells #[.bool false, .bool false, .bool false, .int .i64 0, .int .u16 0, .int .u32 0, .int .u32 0, .slice A8 0 a8, .int .u16 0, .slice B8 0 b8, .slice C8 0 c8, .int .i64 0] 29)
  replace hs1 := hs1.alloc (.cells #[.bool false, .bool false, .bool false, .int .i64 0, .int .u16 0, .int .u32 0, .int .u32 0, .slice A8 0 a8, .int .u16 0, .slice B8 0 b8, .slice C8 0 c8, .int .i64 0] 29)
  replace k1 := k1.alloc (.cells #[.bool false, .bool false, .bool false, .int .i64 0, .int .u16 0, .int .u32 0, .int .u32 0, .slice A8 0 a8, .int .u16 0, .slice B8 0 b8, .slice C8 0 c8, .int .i64 0] 29)
  replace hx := hx.alloc (.cells #[.bool false, .bool false, .bool false, .int .i64 0, .int .u16 0, .int .u32 0, .int .u32 0, .slice A8 0 a8, .int .u16 0, .slice B8 0 b8, .slice C8 0 c8, .int .i64 0] 29)
  replace hB := hB.alloc hB.size (.cells #[.bool false, .bool false, .bool false, .int .i64 0, .int .u16 0, .int .u32 0, .int .u32 0, .slice A8 0 a8, .int .u16 0, .slice B8 0 b8, .slice C8 0 c8, .int .i64 0] 29)
  have fk1 := k1.all12.1
  have fk8 := k8.all12.1
  go_upto_region 14 with fail
  generalize hwz : (w5.alloc (.cells #[.bool false, .bool false, .bool false, .int .i64 0, .int .u16 0, .int .u32 0, .int .u32 0, .slice A8 0 a8, .int .u16 0, .slice B8 0 b8, .slice C8 0 c8, .int .i64 0] 29)) = wz at *
  clear hwz
  go_wp2_with (at_builtin; first
    | (refine wpList_app _ rfl (.tmp 94) (.tmp 95) 27 rfl wz.heap.size 5 Try.underlying27 byte_info (some ⟨wz.heap.size, 0, none⟩) 0 0 [] rfl (own_empty wz _ _ (Nat.le_refl _)) A4 X.length c4 X rfl (hx.alloc _) (by omega) (by simp) ?_; intro A6 c6 w6 hown6 hb6; rw [Nat.zero_add] at hown6; rw [List.nil_append] at hown6; replace hb6 : Below wz.heap.size wz w6 := ((Below.refl _ wz).alloc (Nat.le_refl _) _).trans hb6; have hsz6 := hb6.size; rw [Nat.zero_add])
    | go_loud (refine wpList_app _ rfl (.tmp 96) (.tmp 97) 27 rfl wz.heap.size 5 Try.underlying27 byte_info A6 X.length c6 X rfl hown6 D ld cd m rfl (hs1.below hb6) (by omega) (by omega) ?_; intro A7 c7 w9 hown7 hb7))
  have hb := hb6.trans hb7
  clear hown6 hb6 hb7 hsz6
  clear fk1
  clear fk8
  clear k8
  have fk1 := k1.all12.1
  clear fk1
  replace h1 := h1.below hb
  replace hs1 := hs1.below hb
  replace k1 := k1.call hb
  replace hx := hx.below hb
  replace hB := hB.trans (hb.mono hB.size)
  clear hb
  refine (KC.read A7 (X.length + ld) c7 (X ++ m) _ hown7.bs (by omega)).mono ?_
  rintro e w10 ⟨A9, a9, B9, b9, C9, c9, rfl, hv, hb⟩
  rw [HR2.out.2.1] at hv ⊢
  rw [HR2.out.1]
  dsimp only [pkV]
  replace h1 := h1.below hb
  replace hs1 := hs1.below hb
  replace k1 := k1.call hb
  replace hx := hx.below hb
  replace hB := hB.trans (hb.mono hB.size)
  clear hb
  have k9 := Box.new w10 [.bool r2.hd.pad, .bool r2.hd.ext, .bool r2.hd.mark, .int .i64 r2.hd.typ, .int .u16 r2.hd.seq, .int .u32 r2.hd.time, .int .u32 r2.hd.ssrc, .slice A9 r2.hd.csrc.length a9, .int .u16 r2.prof, .slice B9 r2.ext.length b9, .slice C9 r2.pay.length c9, .int .i64 r2.pad] 29
  replace h1 := h1.alloc (.cells #[.bool r2.hd.pad, .bool r2.hd.ext, .bool r2.hd.mark, .int .i64 r2.hd.typ, .int .u16 r2.hd.seq, .int .u32 r2.hd.time, .int .u32 r2.hd.ssrc, .slice A9 r2.hd.csrc.length a9, .int .u16 r2.prof, .slice B9 r2.ext.length b9, .slice C9 r2.pay.length c9, .int .i64 r2.pad] 29)
  replace hs1 := hs1.alloc (.cells #[.bool r2.hd.pad, .bool r2.hd.ext, .bool r2.hd.mark, .int .i64 r2.hd.typ, .int .u16 r2.hd.seq, .int .u32 r2.hd.time, .int .u32 r2.hd.ssrc, .slice A9 r2.hd.csrc.length a9, .int .u16 r2.prof, .slice B9 r2.ext.length b9, .slice C9 r2.pay.length c9, .int .i64 r2.pad] 29)
  replace k1 := k1.alloc (.cells #[.bool r2.hd.pad, .bool r2.hd.ext, .bool r2.hd.mark, .int .i64 r2.hd.typ, .int .u16 r2.hd.seq, .int .u32 r2.hd.time, .int .u32 r2.hd.ssrc, .slice A9 r2.hd.csrc.length a9, .int .u16 r2.prof, .slice B9 r2.ext.length b9, .slice C9 r2.pay.length c9, .int .i64 r2.pad] 29)
  replace hx := hx.alloc (.cells #[.bool r2.hd.pad, .bool r2.hd.ext, .bool r2.hd.mark, .int .i64 r2.hd.typ, .int .u16 r2.hd.seq, .int .u32 r2.hd.time, .int .u32 r2.hd.ssrc, .slice A9 r2.hd.csrc.length a9, .int .u16 r2.prof, .slice B9 r2.ext.length b9, .slice C9 r2.pay.length c9, .int .i64 r2.pad] 29)
  replace hv := hv.alloc (.cells #[.bool r2.hd.pad, .bool r2.hd.ext, .bool r2.hd.mark, .int .i64 r2.hd.typ, .int .u16 r2.hd.seq, .int .u32 r2.hd.time, .int .u32 r2.hd.ssrc, .slice A9 r2.hd.csrc.length a9, .int .u16 r2.prof, .slice B9 r2.ext.length b9, .slice C9 r2.pay.length c9, .int .i64 r2.pad] 29)
  replace hB := hB.alloc hB.size (.cells #[.bool r2.hd.pad, .bool r2.hd.ext, .bool r2.hd.mark, .int .i64 r2.hd.typ, .int .u16 r2.hd.seq, .int .u32 r2.hd.time, .int .u32 r2.hd.ssrc, .slice A9 r2.hd.csrc.length a9, .int .u16 r2.prof, .slice B9 r2.ext.length b9, .slice C9 r2.pay.length c9, .int .i64 r2.pad] 29)
  have fk1 := k1.all12.1
  have fk9 := k9.all12.1
  go_wp2_with fail
  refine (rsameP_told p A n c B lb cb C lc cc r2 A9 r2.hd.csrc.length a9 B9 r2.ext.length b9 C9 r2.pay.length c9 _ h1 hv false (decide_eq_false (fun e => HR2.out.2.2 e.symm))).mono ?_
  rintro e w11 ⟨rfl, hb⟩
  replace hB := hB.trans (hb.mono hB.size)
  clear fk1 fk9
  go_wp2_with fail
  go_ret
  exact ⟨by first | rfl | simp_all, hB⟩

set_option maxRecDepth 100000 in
set_option maxHeartbeats 4000000 in
theorem packetCut_p_f (p : Pk) (A : Option Addr) (n c : Nat) (B : Option Addr) (lb cb : Nat) (C : Option Addr) (lc cc : Nat) (cut : Nat) (D : Option Addr) (ld cd : Nat) (m : List UInt8) (w : World) (h : PkIn w p A n c B lb cb C lc cc) (hs : Bs w D ld cd m) (hn : n ≤ 99) (hlb : lb ≤ 3000) (hlc : lc ≤ 3000) (hld : ld ≤ 3000) (hcut : cut < 65536) (hf : fitsP p) (ht : (Lit.int .i64 p.hd.typ).wf = true) (hp : (Lit.int .i64 p.pad).wf = true) (hr : rightP p = true) (h1c : pErr ((packB p).take (cut % (packB p).length)) = 5) (h1k : 12 ≤ cut % (packB p).length) (h2l : 0 < ld) (h2c : pErr (packB p ++ m) = 5 ∧ p.hd.pad = true) :
    Calls Try.prog 5 #[pkV p A n c B lb cb C lc cc, .int .u16 cut, .slice D ld cd] w fun e w' => e = .returned (.bool true) ∧ Below w.heap.size w w' := by
  have hok := Lib.hid (fun (W : World) (h : PkIn W p A n c B lb cb C lc cc) => (⟨h, by omega, by omega, by omega, hf, ht, hp⟩ : PkOk W p A n c B lb cb C lc cc))
  have hsh : shortP p = true := by unfold shortP; rw [decide_eq_true_eq, h.us.len, h.ext.len, h.pay.len]; omega
  obtain ⟨hl1, hl2⟩ := packB_length_nat hr
  obtain ⟨hX, hE, hZ⟩ := writeP_yes (room := 65535) hr (by omega)
  have hx12 : 12 ≤ (packB p).length := by obtain ⟨T, hT⟩ := packB_head hr; rw [hT, List.length_append, headB_length]; omega
  have hz1 : readP ((packB p).take (cut % (packB p).length)) = zeroP := if_neg (by omega)
  have HR1 := Lib.hid (And.intro h1c hz1)
  clear hz1 h1c
  have hldz : ((ld : Int) == 0) = false := by rw [beq_eq_false_iff_ne]; omega
  have hz2 : readP (packB p ++ m) = zeroP := if_neg (by omega)
  have HR2 := Lib.hid (And.intro h2c.1 hz2)
  have hpd := Lib.hid h2c.2
  clear h2c hz2
  have HX := Lib.hid hX
  have HE := Lib.hid hE
  have hcm : Int.tmod (cut : Int) ((packB p).length : Int) = ((cut % (packB p).length : Nat) : Int) := by rw [Int.tmod_eq_emod_of_nonneg (by omega)]; omega
  have hkl : cut % (packB p).length ≤ (packB p).length := Nat.le_of_lt (Nat.mod_lt _ (by omega))
  have hcw : IntKind.i64.wrap (cut : Int) = (cut : Int) := IntWalk.i64_in _ (by omega)
  clear hX hE hZ hr hl1
  generalize packB p = X at *
  obtain ⟨k, hk⟩ : ∃ k, cut % X.length = k := ⟨_, rfl⟩
  rw [hk] at hcm hkl h1k
  have HK := Lib.hid hk
  clear hk
  have hk12 : decide ((k : Int) < 12) = false := decide_eq_false (by omega)
  unfold pkV
  have k1 := Box.new w [.bool p.hd.pad, .bool p.hd.ext, .bool p.hd.mark, .int .i64 p.hd.typ, .int .u16 p.hd.seq, .int .u32 p.hd.time, .int .u32 p.hd.ssrc, .slice A n c, .int .u16 p.prof, .slice B lb cb, .slice C lc cc, .int .i64 p.pad] 29
  have h1 := h.alloc (.cells #[.bool p.hd.pad, .bool p.hd.ext, .bool p.hd.mark, .int .i64 p.hd.typ, .int .u16 p.hd.seq, .int .u32 p.hd.time, .int .u32 p.hd.ssrc, .slice A n c, .int .u16 p.prof, .slice B lb cb, .slice C lc cc, .int .i64 p.pad] 29)
  have hs1 := hs.alloc (.cells #[.bool p.hd.pad, .bool p.hd.ext, .bool p.hd.mark, .int .i64 p.hd.typ, .int .u16 p.hd.seq, .int .u32 p.hd.time, .int .u32 p.hd.ssrc, .slice A n c, .int .u16 p.prof, .slice B lb cb, .slice C lc cc, .int .i64 p.pad] 29)
  have hB := below1 w (.cells #[.bool p.hd.pad, .bool p.hd.ext, .bool p.hd.mark, .int .i64 p.hd.typ, .int .u16 p.hd.seq, .int .u32 p.hd.time, .int .u32 p.hd.ssrc, .slice A n c, .int .u16 p.prof, .slice B lb cb, .slice C lc cc, .int .i64 p.pad] 29)
  go_enter Try.func5, Try.ntmps5
  go_wp2_with fail
  refine (awake_any KC _).mono ?_
  rintro e w2 ⟨rfl, hb⟩
  replace h1 := h1.below hb
  replace hs1 := hs1.below hb
  replace k1 := k1.call hb
  replace hB := hB.trans (hb.mono hB.size)
  clear hb
  have fk1 := k1.all12.1
  go_wp2_with fail
  refine (rshort_told p A n c B lb cb C lc cc _ h1 true hsh).mono ?_
  rintro e w3 ⟨rfl, hb⟩
  clear fk1
  replace h1 := h1.below hb
  replace hs1 := hs1.below hb
  replace k1 := k1.call hb
  replace hB := hB.trans (hb.mono hB.size)
  clear hb
  have fk1 := k1.all12.1
  go_wp2_with fail
  refine (write_told KC p A n c B lb cb C lc cc 65535 _ (hok.out _ h1) (by decide) X X.length 0 HX.out rfl HE.out).mono ?_
  rintro e w4 ⟨A4, c4, rfl, hx, hb⟩
  clear fk1
  replace h1 := h1.below hb
  replace hs1 := hs1.below hb
  replace k1 := k1.call hb
  replace hB := hB.trans (hb.mono hB.size)
  clear hb
  have fk1 := k1.all12.1
  obtain ⟨A5, c5, hsl, hY⟩ := hx.slice_r Try.underlying27 byte_size (r := k) hkl
  have hsl2 := fun W => hsl W (k : Int) rfl
  clear hsl
  go_wp2_with fail
  refine (KC.read A5 k c5 _ _ hY (by omega)).mono ?_
  rintro e w5 ⟨A8, a8, B8, b8, C8, c8, rfl, hq, hb⟩
  clear hsl2 hY
  rw [← HK.out, HR1.out.2] at hq ⊢
  rw [HR1.out.1]
  dsimp only [pkV, zeroP, zeroH, List.length_nil] at hq ⊢
  try rw [HK.out]
  clear fk1
  replace h1 := h1.below hb
  replace hs1 := hs1.below hb
  replace k1 := k1.call hb
  replace hx := hx.below hb
  replace hB := hB.trans (hb.mono hB.size)
  clear hb
  have k8 := Box.new w5 [.bool false, .bool false, .bool false, .int .i64 0, .int .u16 0, .int .u32 0, .int .u32 0, .slice A8 0 a8, .int .u16 0, .slice B8 0 b8, .slice C8 0 c8, .int .i64 0] 29
  replace h1 := h1.alloc (.cells #[.bool false, .bool false, .bool false, .int .i64 0, .int .u16 0, .int .u32 0, .int .u32 0, .slice A8 0 a8, .int .u16 0, .slice B8 0 b8, .slice C8 0 c8, .int .i64 0] 29)
  replace hs1 := hs1.alloc (.cells #[.bool false, .bool false, .bool false, .int .i64 0, .int .u16 0, .int .u32 0, .int .u32 0, .slice A8 0 a8, .int .u16 0, .slice B8 0 b8, .slice C8 0 c8, .int .i64 0] 29)
  replace k1 := k1.alloc (.cells #[.bool false, .bool false, .bool false, .int .i64 0, .int .u16 0, .int .u32 0, .int .u32 0, .slice A8 0 a8, .int .u16 0, .slice B8 0 b8, .slice C8 0 c8, .int .i64 0] 29)
  replace hx := hx.alloc (.cells #[.bool false, .bool false, .bool false, .int .i64 0, .int .u16 0, .int .u32 0, .int .u32 0, .slice A8 0 a8, .int .u16 0, .slice B8 0 b8, .slice C8 0 c8, .int .i64 0] 29)
  replace hB := hB.alloc hB.size (.cells #[.bool false, .bool false, .bool false, .int .i64 0, .int .u16 0, .int .u32 0, .int .u32 0, .slice A8 0 a8, .int .u16 0, .slice B8 0 b8, .slice C8 0 c8, .int .i64 0] 29)
  have fk1 := k1.all12.1
  have fk8 := k8.all12.1
  go_upto_region 14 with fail
  generalize hwz : (w5.alloc (.cells #[.bool false, .bool false, .bool false, .int .i64 0, .int .u16 0, .int .u32 0, .int .u32 0, .slice A8 0 a8, .int .u16 0, .slice B8 0 b8, .slice C8 0 c8, .int .i64 0] 29)) = wz at *
  clear hwz
  go_wp2_with (at_builtin; first
    | (refine wpList_app _ rfl (.tmp 94) (.tmp 95) 27 rfl wz.heap.size 5 Try.underlying27 byte_info (some ⟨wz.heap.size, 0, none⟩) 0 0 [] rfl (own_empty wz _ _ (Nat.le_refl _)) A4 X.length c4 X rfl (hx.alloc _) (by omega) (by simp) ?_; intro A6 c6 w6 hown6 hb6; rw [Nat.zero_add] at hown6; rw [List.nil_append] at hown6; replace hb6 : Below wz.heap.size wz w6 := ((Below.refl _ wz).alloc (Nat.le_refl _) _).trans hb6; have hsz6 := hb6.size; rw [Nat.zero_add])
    | go_loud (refine wpList_app _ rfl (.tmp 96) (.tmp 97) 27 rfl wz.heap.size 5 Try.underlying27 byte_info A6 X.length c6 X rfl hown6 D ld cd m rfl (hs1.below hb6) (by omega) (by omega) ?_; intro A7 c7 w9 hown7 hb7))
  have hb := hb6.trans hb7
  clear hown6 hb6 hb7 hsz6
  clear fk1
  clear fk8
  clear k8
  have fk1 := k1.all12.1
  clear fk1
  replace h1 := h1.below hb
  replace hs1 := hs1.below hb
  replace k1 := k1.call hb
  replace hx := hx.below hb
  replace hB := hB.trans (hb.mono hB.size)
  clear hb
  refine (KC.read A7 (X.length + ld) c7 (X ++ m) _ hown7.bs (by omega)).mono ?_
  rintro e w10 ⟨A9, a9, B9, b9, C9, c9, rfl, hv, hb⟩
  rw [HR2.out.2] at hv ⊢
  rw [HR2.out.1]
  dsimp only [pkV, zeroP, zeroH, List.length_nil] at hv ⊢
  replace h1 := h1.below hb
  replace hs1 := hs1.below hb
  replace k1 := k1.call hb
  replace hx := hx.below hb
  replace hB := hB.trans (hb.mono hB.size)
  clear hb
  have k9 := Box.new w10 [.bool false, .bool false, .bool false, .int .i64 0, .int .u16 0, .int .u32 0, .int .u32 0, .slice A9 0 a9, .int .u16 0, .slice B9 0 b9, .slice C9 0 c9, .int .i64 0] 29
  replace h1 := h1.alloc (.cells #[.bool false, .bool false, .bool false, .int .i64 0, .int .u16 0, .int .u32 0, .int .u32 0, .slice A9 0 a9, .int .u16 0, .slice B9 0 b9, .slice C9 0 c9, .int .i64 0] 29)
  replace hs1 := hs1.alloc (.cells #[.bool false, .bool false, .bool false, .int .i64 0, .int .u16 0, .int .u32 0, .int .u32 0, .slice A9 0 a9, .int .u16 0, .slice B9 0 b9, .slice C9 0 c9, .int .i64 0] 29)
  replace k1 := k1.alloc (.cells #[.bool false, .bool false, .bool false, .int .i64 0, .int .u16 0, .int .u32 0, .int .u32 0, .slice A9 0 a9, .int .u16 0, .slice B9 0 b9, .slice C9 0 c9, .int .i64 0] 29)
  replace hx := hx.alloc (.cells #[.bool false, .bool false, .bool false, .int .i64 0, .int .u16 0, .int .u32 0, .int .u32 0, .slice A9 0 a9, .int .u16 0, .slice B9 0 b9, .slice C9 0 c9, .int .i64 0] 29)
  replace hB := hB.alloc hB.size (.cells #[.bool false, .bool false, .bool false, .int .i64 0, .int .u16 0, .int .u32 0, .int .u32 0, .slice A9 0 a9, .int .u16 0, .slice B9 0 b9, .slice C9 0 c9, .int .i64 0] 29)
  have fk1 := k1.all12.1
  have fk9 := k9.all12.1
  rw [hpd.out] at fk1
  go_wp2_with fail
  go_ret
  exact ⟨by first | rfl | simp_all, hB⟩

set_option maxRecDepth 100000 in
set_option maxHeartbeats 4000000 in
theorem packetCut_s_e (p : Pk) (A : Option Addr) (n c : Nat) (B : Option Addr) (lb cb : Nat) (C : Option Addr) (lc cc : Nat) (cut : Nat) (D : Option Addr) (ld cd : Nat) (m : List UInt8) (w : World) (h : PkIn w p A n c B lb cb C lc cc) (hs : Bs w D ld cd m) (hn : n ≤ 99) (hlb : lb ≤ 3000) (hlc : lc ≤ 3000) (hld : ld ≤ 3000) (hcut : cut < 65536) (hf : fitsP p) (ht : (Lit.int .i64 p.hd.typ).wf = true) (hp : (Lit.int .i64 p.pad).wf = true) (hr : rightP p = true) (h1c : pErr ((packB p).take (cut % (packB p).length)) = 2) (h1k : 12 ≤ cut % (packB p).length) (h2c : ld = 0) :
    Calls Try.prog 5 #[pkV p A n c B lb cb C lc cc, .int .u16 cut, .slice D ld cd] w fun e w' => e = .returned (.bool true) ∧ Below w.heap.size w w' := by
  have hok := Lib.hid (fun (W : World) (h : PkIn W p A n c B lb cb C lc cc) => (⟨h, by omega, by omega, by omega, hf, ht, hp⟩ : PkOk W p A n c B lb cb C lc cc))
  have hsh : shortP p = true := by unfold shortP; rw [decide_eq_true_eq, h.us.len, h.ext.len, h.pay.len]; omega
  obtain ⟨hl1, hl2⟩ := packB_length_nat hr
  obtain ⟨hX, hE, hZ⟩ := writeP_yes (room := 65535) hr (by omega)
  have hx12 : 12 ≤ (packB p).length := by obtain ⟨T, hT⟩ := packB_head hr; rw [hT, List.length_append, headB_length]; omega
  have hz1 : readP ((packB p).take (cut % (packB p).length)) = zeroP := if_neg (by omega)
  have HR1 := Lib.hid (And.intro h1c hz1)
  clear hz1 h1c
  have hm0 : m = [] := List.eq_nil_of_length_eq_zero (by rw [hs.len]; exact h2c)
  obtain ⟨hrd1, hrd2⟩ := read_pack hr hf
  have HR2 : Hid (pErr (packB p ++ m) = 0 ∧ readP (packB p ++ m) = p) := Lib.hid (by rw [hm0, List.append_nil]; exact ⟨hrd1, hrd2⟩)
  have hldz : ((ld : Int) == 0) = true := by rw [beq_iff_eq]; omega
  clear hm0 hrd1 hrd2 h2c
  have HX := Lib.hid hX
  have HE := Lib.hid hE
  have hcm : Int.tmod (cut : Int) ((packB p).length : Int) = ((cut % (packB p).length : Nat) : Int) := by rw [Int.tmod_eq_emod_of_nonneg (by omega)]; omega
  have hkl : cut % (packB p).length ≤ (packB p).length := Nat.le_of_lt (Nat.mod_lt _ (by omega))
  have hcw : IntKind.i64.wrap (cut : Int) = (cut : Int) := IntWalk.i64_in _ (by omega)
  clear hX hE hZ hr hl1
  generalize packB p = X at *
  obtain ⟨k, hk⟩ : ∃ k, cut % X.length = k := ⟨_, rfl⟩
  rw [hk] at hcm hkl h1k
  have HK := Lib.hid hk
  clear hk
  have hk12 : decide ((k : Int) < 12) = false := decide_eq_false (by omega)
  unfold pkV
  have k1 := Box.new w [.bool p.hd.pad, .bool p.hd.ext, .bool p.hd.mark, .int .i64 p.hd.typ, .int .u16 p.hd.seq, .int .u32 p.hd.time, .int .u32 p.hd.ssrc, .slice A n c, .int .u16 p.prof, .slice B lb cb, .slice C lc cc, .int .i64 p.pad] 29
  have h1 := h.alloc (.cells #[.bool p.hd.pad, .bool p.hd.ext, .bool p.hd.mark, .int .i64 p.hd.typ, .int .u16 p.hd.seq, .int .u32 p.hd.time, .int .u32 p.hd.ssrc, .slice A n c, .int .u16 p.prof, .slice B lb cb, .slice C lc cc, .int .i64 p.pad] 29)
  have hs1 := hs.alloc (.cells #[.bool p.hd.pad, .bool p.hd.ext, .bool p.hd.mark, .int .i64 p.hd.typ, .int .u16 p.hd.seq, .int .u32 p.hd.time, .int .u32 p.hd.ssrc, .slice A n c, .int .u16 p.prof, .slice B lb cb, .slice C lc cc, .int .i64 p.pad] 29)
  have hB := below1 w (.cells #[.bool p.hd.pad, .bool p.hd.ext, .bool p.hd.mark, .int .i64 p.hd.typ, .int .u16 p.hd.seq, .int .u32 p.hd.time, .int .u32 p.hd.ssrc, .slice A n c, .int .u16 p.prof, .slice B lb cb, .slice C lc cc, .int .i64 p.pad] 29)
  go_enter Try.func5, Try.ntmps5
  go_wp2_with fail
  refine (awake_any KC _).mono ?_
  rintro e w2 ⟨rfl, hb⟩
  replace h1 := h1.below hb
  replace hs1 := hs1.below hb
  replace k1 := k1.call hb
  replace hB := hB.trans (hb.mono hB.size)
  clear hb
  have fk1 := k1.all12.1
  go_wp2_with fail
  refine (rshort_told p A n c B lb cb C lc cc _ h1 true hsh).mono ?_
  rintro e w3 ⟨rfl, hb⟩
  clear fk1
  replace h1 := h1.below hb
  replace hs1 := hs1.below hb
  replace k1 := k1.call hb
  replace hB := hB.trans (hb.mono hB.size)
  clear hb
  have fk1 := k1.all12.1
  go_wp2_with fail
  refine (write_told KC p A n c B lb cb C lc cc 65535 _ (hok.out _ h1) (by decide) X X.length 0 HX.out rfl HE.out).mono ?_
  rintro e w4 ⟨A4, c4, rfl, hx, hb⟩
  clear fk1
  replace h1 := h1.below hb
  replace hs1 := hs1.below hb
  replace k1 := k1.call hb
  replace hB := hB.trans (hb.mono hB.size)
  clear hb
  have fk1 := k1.all12.1
  obtain ⟨A5, c5, hsl, hY⟩ := hx.slice_r Try.underlying27 byte_size (r := k) hkl
  have hsl2 := fun W => hsl W (k : Int) rfl
  clear hsl
  go_wp2_with fail
  refine (KC.read A5 k c5 _ _ hY (by omega)).mono ?_
  rintro e w5 ⟨A8, a8, B8, b8, C8, c8, rfl, hq, hb⟩
  clear hsl2 hY
  rw [← HK.out, HR1.out.2] at hq ⊢
  rw [HR1.out.1]
  dsimp only [pkV, zeroP, zeroH, List.length_nil] at hq ⊢
  try rw [HK.out]
  clear fk1
  replace h1 := h1.below hb
  replace hs1 := hs1.below hb
  replace k1 := k1.call hb
  replace hx := hx.below hb
  replace hB := hB.trans (hb.mono hB.size)
  clear hb
  have k8 := Box.new w5 [.bool false, .bool false, .bool false, .int .i64 0, .int .u16 0, .int .u32 0, .int .u32 0, .slice A8 0 a8, .int .u16 0, .slice B8 0 b8, .slice C8 0 c8, .int .i64 0] 29
  replace h1 := h1.alloc (.cells #[.bool false, .bool false, .bool false, .int .i64 0, .int .u16 0, .int .u32 0, .int .u32 0, .slice A8 0 a8, .int .u16 0, .slice B8 0 b8, .slice C8 0 c8, .int .i64 0] 29)
  replace hs1 := hs1.alloc (.cells #[.bool false, .bool false, .bool false, .int .i64 0, .int .u16 0, .int .u32 0, .int .u32 0, .slice A8 0 a8, .int .u16 0, .slice B8 0 b8, .slice C8 0 c8, .int .i64 0] 29)
  replace k1 := k1.alloc (.cells #[.bool false, .bool false, .bool false, .int .i64 0, .int .u16 0, .int .u32 0, .int .u32 0, .slice A8 0 a8, .int .u16 0, .slice B8 0 b8, .slice C8 0 c8, .int .i64 0] 29)
  replace hx := hx.alloc (.cells #[.bool false, .bool false, .bool false, .int .i64 0, .int .u16 0, .int .u32 0, .int .u32 0, .slice A8 0 a8, .int .u16 0, .slice B8 0 b8, .slice C8 0 c8, .int .i64 0] 29)
  replace hB := hB.alloc hB.size (.cells #[.bool false, .bool false, .bool false, .int .i64 0, .int .u16 0, .int .u32 0, .int .u32 0, .slice A8 0 a8, .int .u16 0, .slice B8 0 b8, .slice C8 0 c8, .int .i64 0] 29)
  have fk1 := k1.all12.1
  have fk8 := k8.all12.1
  go_upto_region 14 with fail
  generalize hwz : (w5.alloc (.cells #[.bool false, .bool false, .bool false, .int .i64 0, .int .u16 0, .int .u32 0, .int .u32 0, .slice A8 0 a8, .int .u16 0, .slice B8 0 b8, .slice C8 0 c8, .int .i64 0] 29)) = wz at *
  clear hwz
  go_wp2_with (at_builtin; first
    | (refine wpList_app _ rfl (.tmp 94) (.tmp 95) 27 rfl wz.heap.size 5 Try.underlying27 byte_info (some ⟨wz.heap.size, 0, none⟩) 0 0 [] rfl (own_empty wz _ _ (Nat.le_refl _)) A4 X.length c4 X rfl (hx.alloc _) (by omega) (by simp) ?_; intro A6 c6 w6 hown6 hb6; rw [Nat.zero_add] at hown6; rw [List.nil_append] at hown6; replace hb6 : Below wz.heap.size wz w6 := ((Below.refl _ wz).alloc (Nat.le_refl _) _).trans hb6; have hsz6 := hb6.size; rw [Nat.zero_add])
    | go_loud (refine wpList_app _ rfl (.tmp 96) (.tmp 97) 27 rfl wz.heap.size 5 Try.underlying27 byte_info A6 X.length c6 X rfl hown6 D ld cd m rfl (hs1.below hb6) (by omega) (by omega) ?_; intro A7 c7 w9 hown7 hb7))
  have hb := hb6.trans hb7
  clear hown6 hb6 hb7 hsz6
  clear fk1
  clear fk8
  clear k8
  have fk1 := k1.all12.1
  clear fk1
  replace h1 := h1.below hb
  replace hs1 := hs1.below hb
  replace k1 := k1.call hb
  replace hx := hx.below hb
  replace hB := hB.trans (hb.mono hB.size)
  clear hb
  refine (KC.read A7 (X.length + ld) c7 (X ++ m) _ hown7.bs (by omega)).mono ?_
  rintro e w10 ⟨A9, a9, B9, b9, C9, c9, rfl, hv, hb⟩
  rw [HR2.out.2] at hv ⊢
  rw [HR2.out.1]
  dsimp only [pkV]
  replace h1 := h1.below hb
  replace hs1 := hs1.below hb
  replace k1 := k1.call hb
  replace hx := hx.below hb
  replace hB := hB.trans (hb.mono hB.size)
  clear hb
  have k9 := Box.new w10 [.bool p.hd.pad, .bool p.hd.ext, .bool p.hd.mark, .int .i64 p.hd.typ, .int .u16 p.hd.seq, .int .u32 p.hd.time, .int .u32 p.hd.ssrc, .slice A9 p.hd.csrc.length a9, .int .u16 p.prof, .slice B9 p.ext.length b9, .slice C9 p.pay.length c9, .int .i64 p.pad] 29
  replace h1 := h1.alloc (.cells #[.bool p.hd.pad, .bool p.hd.ext, .bool p.hd.mark, .int .i64 p.hd.typ, .int .u16 p.hd.seq, .int .u32 p.hd.time, .int .u32 p.hd.ssrc, .slice A9 p.hd.csrc.length a9, .int .u16 p.prof, .slice B9 p.ext.length b9, .slice C9 p.pay.length c9, .int .i64 p.pad] 29)
  replace hs1 := hs1.alloc (.cells #[.bool p.hd.pad, .bool p.hd.ext, .bool p.hd.mark, .int .i64 p.hd.typ, .int .u16 p.hd.seq, .int .u32 p.hd.time, .int .u32 p.hd.ssrc, .slice A9 p.hd.csrc.length a9, .int .u16 p.prof, .slice B9 p.ext.length b9, .slice C9 p.pay.length c9, .int .i64 p.pad] 29)
  replace k1 := k1.alloc (.cells #[.bool p.hd.pad, .bool p.hd.ext, .bool p.hd.mark, .int .i64 p.hd.typ, .int .u16 p.hd.seq, .int .u32 p.hd.time, .int .u32 p.hd.ssrc, .slice A9 p.hd.csrc.length a9, .int .u16 p.prof, .slice B9 p.ext.length b9, .slice C9 p.pay.length c9, .int .i64 p.pad] 29)
  replace hx := hx.alloc (.cells #[.bool p.hd.pad, .bool p.hd.ext, .bool p.hd.mark, .int .i64 p.hd.typ, .int .u16 p.hd.seq, .int .u32 p.hd.time, .int .u32 p.hd.ssrc, .slice A9 p.hd.csrc.length a9, .int .u16 p.prof, .slice B9 p.ext.length b9, .slice C9 p.pay.length c9, .int .i64 p.pad] 29)
  replace hv := hv.alloc (.cells #[.bool p.hd.pad, .bool p.hd.ext, .bool p.hd.mark, .int .i64 p.hd.typ, .int .u16 p.hd.seq, .int .u32 p.hd.time, .int .u32 p.hd.ssrc, .slice A9 p.hd.csrc.length a9, .int .u16 p.prof, .slice B9 p.ext.length b9, .slice C9 p.pay.length c9, .int .i64 p.pad] 29)
  replace hB := hB.alloc hB.size (.cells #[.bool p.hd.pad, .bool p.hd.ext, .bool p.hd.mark, .int .i64 p.hd.typ, .int .u16 p.hd.seq, .int .u32 p.hd.time, .int .u32 p.hd.ssrc, .slice A9 p.hd.csrc.length a9, .int .u16 p.prof, .slice B9 p.ext.length b9, .slice C9 p.pay.length c9, .int .i64 p.pad] 29)
  have fk1 := k1.all12.1
  have fk9 := k9.all12.1
  go_wp2_with fail
  refine (rsameP_told p A n c B lb cb C lc cc p A9 p.hd.csrc.length a9 B9 p.ext.length b9 C9 p.pay.length c9 _ h1 hv true (decide_eq_true rfl)).mono ?_
  rintro e w11 ⟨rfl, hb⟩
  replace hB := hB.trans (hb.mono hB.size)
  clear fk1 fk9
  go_wp2_with fail
  go_ret
  exact ⟨by first | rfl | simp_all, hB⟩

set_option maxRecDepth 100000 in
set_option maxHeartbeats 4000000 in
theorem packetCut_s_q (p : Pk) (A : Option Addr) (n c : Nat) (B : Option Addr) (lb cb : Nat) (C : Option Addr) (lc cc : Nat) (cut : Nat) (D : Option Addr) (ld cd : Nat) (m : List UInt8) (w : World) (h : PkIn w p A n c B lb cb C lc cc) (hs : Bs w D ld cd m) (hn : n ≤ 99) (hlb : lb ≤ 3000) (hlc : lc ≤ 3000) (hld : ld ≤ 3000) (hcut : cut < 65536) (hf : fitsP p) (ht : (Lit.int .i64 p.hd.typ).wf = true) (hp : (Lit.int .i64 p.pad).wf = true) (hr : rightP p = true) (h1c : pErr ((packB p).take (cut % (packB p).length)) = 2) (h1k : 12 ≤ cut % (packB p).length) (h2l : 0 < ld) (h2c : pErr (packB p ++ m) = 0 ∧ readP (packB p ++ m) ≠ p) :
    Calls Try.prog 5 #[pkV p A n c B lb cb C lc cc, .int .u16 cut, .slice D ld cd] w fun e w' => e = .returned (.bool true) ∧ Below w.heap.size w w' := by
  have hok := Lib.hid (fun (W : World) (h : PkIn W p A n c B lb cb C lc cc) => (⟨h, by omega, by omega, by omega, hf, ht, hp⟩ : PkOk W p A n c B lb cb C lc cc))
  have hsh : shortP p = true := by unfold shortP; rw [decide_eq_true_eq, h.us.len, h.ext.len, h.pay.len]; omega
  obtain ⟨hl1, hl2⟩ := packB_length_nat hr
  obtain ⟨hX, hE, hZ⟩ := writeP_yes (room := 65535) hr (by omega)
  have hx12 : 12 ≤ (packB p).length := by obtain ⟨T, hT⟩ := packB_head hr; rw [hT, List.length_append, headB_length]; omega
  have hz1 : readP ((packB p).take (cut % (packB p).length)) = zeroP := if_neg (by omega)
  have HR1 := Lib.hid (And.intro h1c hz1)
  clear hz1 h1c
  have hldz : ((ld : Int) == 0) = false := by rw [beq_eq_false_iff_ne]; omega
  obtain ⟨r2, hr2⟩ : ∃ r2, readP (packB p ++ m) = r2 := ⟨_, rfl⟩
  rw [hr2] at h2c
  have HR2 := Lib.hid (And.intro h2c.1 (And.intro hr2 h2c.2))
  clear h2c hr2
  have HX := Lib.hid hX
  have HE := Lib.hid hE
  have hcm : Int.tmod (cut : Int) ((packB p).length : Int) = ((cut % (packB p).length : Nat) : Int) := by rw [Int.tmod_eq_emod_of_nonneg (by omega)]; omega
  have hkl : cut % (packB p).length ≤ (packB p).length := Nat.le_of_lt (Nat.mod_lt _ (by omega))
  have hcw : IntKind.i64.wrap (cut : Int) = (cut : Int) := IntWalk.i64_in _ (by omega)
  clear hX hE hZ hr hl1
  generalize packB p = X at *
  obtain ⟨k, hk⟩ : ∃ k, cut % X.length = k := ⟨_, rfl⟩
  rw [hk] at hcm hkl h1k
  have HK := Lib.hid hk
  clear hk
  have hk12 : decide ((k : Int) < 12) = false := decide_eq_false (by omega)
  unfold pkV
  have k1 := Box.new w [.bool p.hd.pad, .bool p.hd.ext, .bool p.hd.mark, .int .i64 p.hd.typ, .int .u16 p.hd.seq, .int .u32 p.hd.time, .int .u32 p.hd.ssrc, .slice A n c, .int .u16 p.prof, .slice B lb cb, .slice C lc cc, .int .i64 p.pad] 29
  have h1 := h.alloc (.cells #[.bool p.hd.pad, .bool p.hd.ext, .bool p.hd.mark, .int .i64 p.hd.typ, .int .u16 p.hd.seq, .int .u32 p.hd.time, .int .u32 p.hd.ssrc, .slice A n c, .int .u16 p.prof, .slice B lb cb, .slice C lc cc, .int .i64 p.pad] 29)
  have hs1 := hs.alloc (.cells #[.bool p.hd.pad, .bool p.hd.ext, .bool p.hd.mark, .int .i64 p.hd.typ, .int .u16 p.hd.seq, .int .u32 p.hd.time, .int .u32 p.hd.ssrc, .slice A n c, .int .u16 p.prof, .slice B lb cb, .slice C lc cc, .int .i64 p.pad] 29)
  have hB := below1 w (.cells #[.bool p.hd.pad, .bool p.hd.ext, .bool p.hd.mark, .int .i64 p.hd.typ, .int .u16 p.hd.seq, .int .u32 p.hd.time, .int .u32 p.hd.ssrc, .slice A n c, .int .u16 p.prof, .slice B lb cb, .slice C lc cc, .int .i64 p.pad] 29)
  go_enter Try.func5, Try.ntmps5
  go_wp2_with fail
  refine (awake_any KC _).mono ?_
  rintro e w2 ⟨rfl, hb⟩
  replace h1 := h1.below hb
  replace hs1 := hs1.below hb
  replace k1 := k1.call hb
  replace hB := hB.trans (hb.mono hB.size)
  clear hb
  have fk1 := k1.all12.1
  go_wp2_with fail
  refine (rshort_told p A n c B lb cb C lc cc _ h1 true hsh).mono ?_
  rintro e w3 ⟨rfl, hb⟩
  clear fk1
  replace h1 := h1.below hb
  replace hs1 := hs1.below hb
  replace k1 := k1.call hb
  replace hB := hB.trans (hb.mono hB.size)
  clear hb
  have fk1 := k1.all12.1
  go_wp2_with fail
  refine (write_told KC p A n c B lb cb C lc cc 65535 _ (hok.out _ h1) (by decide) X X.length 0 HX.out rfl HE.out).mono ?_
  rintro e w4 ⟨A4, c4, rfl, hx, hb⟩
  clear fk1
  replace h1 := h1.below hb
  replace hs1 := hs1.below hb
  replace k1 := k1.call hb
  replace hB := hB.trans (hb.mono hB.size)
  clear hb
  have fk1 := k1.all12.1
  obtain ⟨A5, c5, hsl, hY⟩ := hx.slice_r Try.underlying27 byte_size (r := k) hkl
  have hsl2 := fun W => hsl W (k : Int) rfl
  clear hsl
  go_wp2_with fail
  refine (KC.read A5 k c5 _ _ hY (by omega)).mono ?_
  rintro e w5 ⟨A8, a8, B8, b8, C8, c8, rfl, hq, hb⟩
  clear hsl2 hY
  rw [← HK.out, HR1.out.2] at hq ⊢
  rw [HR1.out.1]
  dsimp only [pkV, zeroP, zeroH, List.length_nil] at hq ⊢
  try rw [HK.out]
  clear fk1
  replace h1 := h1.below hb
  replace hs1 := hs1.below hb
  replace k1 := k1.call hb
  replace hx := hx.below hb
  replace hB := hB.trans (hb.mono hB.size)
  clear hb
  have k8 := Box.new w5 [.bool false, .bool false, .bool false, .int .i64 0, .int .u16 0, .int .u32 0, .int .u32 0, .slice A8 0 a8, .int .u16 0, .slice B8 0 b8, .slice C8 0 c8, .int .i64 0] 29
  replace h1 := h1.alloc (.cells #[.bool false, .bool false, .bool false, .int .i64 0, .int .u16 0, .int .u32 0, .int .u32 0, .slice A8 0 a8, .int .u16 0, .slice B8 0 b8, .slice C8 0 c8, .int .i64 0] 29)
  replace hs1 := hs1.alloc (.cells #[.bool false, .bool false, .bool false, .int .i64 0, .int .u16 0, .int .u32 0, .int .u32 0, .slice A8 0 a8, .int .u16 0, .slice B8 0 b8, .slice C8 0 c8, .int .i64 0] 29)
  replace k1 := k1.alloc (.cells #[.bool false, .bool false, .bool false, .int .i64 0, .int .u16 0, .int .u32 0, .int .u32 0, .slice A8 0 a8, .int .u16 0, .slice B8 0 b8, .slice C8 0 c8, .int .i64 0] 29)
  replace hx := hx.alloc (.cells #[.bool false, .bool false, .bool false, .int .i64 0, .int .u16 0, .int .u32 0, .int .u32 0, .slice A8 0 a8, .int .u16 0, .slice B8 0 b8, .slice C8 0 c8, .int .i64 0] 29)
  replace hB := hB.alloc hB.size (.cells #[.bool false, .bool false, .bool false, .int .i64 0, .int .u16 0, .int .u32 0, .int .u32 0, .slice A8 0 a8, .int .u16 0, .slice B8 0 b8, .slice C8 0 c8, .int .i64 0] 29)
  have fk1 := k1.all12.1
  have fk8 := k8.all12.1
  go_upto_region 14 with fail
  generalize hwz : (w5.alloc (.cells #[.bool false, .bool false, .bool false, .int .i64 0, .int .u16 0, .int .u32 0, .int .u32 0, .slice A8 0 a8, .int .u16 0, .slice B8 0 b8, .slice C8 0 c8, .int .i64 0] 29)) = wz at *
  clear hwz
  go_wp2_with (at_builtin; first
    | (refine wpList_app _ rfl (.tmp 94) (.tmp 95) 27 rfl wz.heap.size 5 Try.underlying27 byte_info (some ⟨wz.heap.size, 0, none⟩) 0 0 [] rfl (own_empty wz _ _ (Nat.le_refl _)) A4 X.length c4 X rfl (hx.alloc _) (by omega) (by simp) ?_; intro A6 c6 w6 hown6 hb6; rw [Nat.zero_add] at hown6; rw [List.nil_append] at hown6; replace hb6 : Below wz.heap.size wz w6 := ((Below.refl _ wz).alloc (Nat.le_refl _) _).trans hb6; have hsz6 := hb6.size; rw [Nat.zero_add])
    | go_loud (refine wpList_app _ rfl (.tmp 96) (.tmp 97) 27 rfl wz.heap.size 5 Try.underlying27 byte_info A6 X.length c6 X rfl hown6 D ld cd m rfl (hs1.below hb6) (by omega) (by omega) ?_; intro A7 c7 w9 hown7 hb7))
  have hb := hb6.trans hb7
  clear hown6 hb6 hb7 hsz6
  clear fk1
  clear fk8
  clear k8
  have fk1 := k1.all12.1
  clear fk1
  replace h1 := h1.below hb
  replace hs1 := hs1.below hb
  replace k1 := k1.call hb
  replace hx := hx.below hb
  replace hB := hB.trans (hb.mono hB.size)
  clear hb
  refine (KC.read A7 (X.length + ld) c7 (X ++ m) _ hown7.bs (by omega)).mono ?_
  rintro e w10 ⟨A9, a9, B9, b9, C9, c9, rfl, hv, hb⟩
  rw [HR2.out.2.1] at hv ⊢
  rw [HR2.out.1]
  dsimp only [pkV]
  replace h1 := h1.below hb
  replace hs1 := hs1.below hb
  replace k1 := k1.call hb
  replace hx := hx.below hb
  replace hB := hB.trans (hb.mono hB.size)
  clear hb
  have k9 := Box.new w10 [.bool r2.hd.pad, .bool r2.hd.ext, .bool r2.hd.mark, .int .i64 r2.hd.typ, .int .u16 r2.hd.seq, .int .u32 r2.hd.time, .int .u32 r2.hd.ssrc, .slice A9 r2.hd.csrc.length a9, .int .u16 r2.prof, .slice B9 r2.ext.length b9, .slice C9 r2.pay.length c9, .int .i64 r2.pad] 29
  replace h1 := h1.alloc (.cells #[.bool r2.hd.pad, .bool r2.hd.ext, .bool r2.hd.mark, .int .i64 r2.hd.typ, .int .u16 r2.hd.seq, .int .u32 r2.hd.time, .int .u32 r2.hd.ssrc, .slice A9 r2.hd.csrc.length a9, .int .u16 r2.prof, .slice B9 r2.ext.length b9, .slice C9 r2.pay.length c9, .int .i64 r2.pad] 29)
  replace hs1 := hs1.alloc (.cells #[.bool r2.hd.pad, .bool r2.hd.ext, .bool r2.hd.mark, .int .i64 r2.hd.typ, .int .u16 r2.hd.seq, .int .u32 r2.hd.time, .int .u32 r2.hd.ssrc, .slice A9 r2.hd.csrc.length a9, .int .u16 r2.prof, .slice B9 r2.ext.length b9, .slice C9 r2.pay.length c9, .int .i64 r2.pad] 29)
  replace k1 := k1.alloc (.cells #[.bool r2.hd.pad, .bool r2.hd.ext, .bool r2.hd.mark, .int .i64 r2.hd.typ, .int .u16 r2.hd.seq, .int .u32 r2.hd.time, .int .u32 r2.hd.ssrc, .slice A9 r2.hd.csrc.length a9, .int .u16 r2.prof, .slice B9 r2.ext.length b9, .slice C9 r2.pay.length c9, .int .i64 r2.pad] 29)
  replace hx := hx.alloc (.cells #[.bool r2.hd.pad, .bool r2.hd.ext, .bool r2.hd.mark, .int .i64 r2.hd.typ, .int .u16 r2.hd.seq, .int .u32 r2.hd.time, .int .u32 r2.hd.ssrc, .slice A9 r2.hd.csrc.length a9, .int .u16 r2.prof, .slice B9 r2.ext.length b9, .slice C9 r2.pay.length c9, .int .i64 r2.pad] 29)
  replace hv := hv.alloc (.cells #[.bool r2.hd.pad, .bool r2.hd.ext, .bool r2.hd.mark, .int .i64 r2.hd.typ, .int .u16 r2.hd.seq, .int .u32 r2.hd.time, .int .u32 r2.hd.ssrc, .slice A9 r2.hd.csrc.length a9, .int .u16 r2.prof, .slice B9 r2.ext.length b9, .slice C9 r2.pay.length c9, .int .i64 r2.pad] 29)
  replace hB := hB.alloc hB.size (.cells #[.bool r2.hd.pad, .bool r2.hd.ext, .bool r2.hd.mark, .int .i64 r2.hd.typ, .int .u16 r2.hd.seq, .int .u32 r2.hd.time, .int .u32 r2.hd.ssrc, .slice A9 r2.hd.csrc.length a9, .int .u16 r2.prof, .slice B9 r2.ext.length b9, .slice C9 r2.pay.length c9, .int .i64 r2.pad] 29)
  have fk1 := k1.all12.1
  have fk9 := k9.all12.1
  go_wp2_with fail
  refine (rsameP_told p A n c B lb cb C lc cc r2 A9 r2.hd.csrc.length a9 B9 r2.ext.length b9 C9 r2.pay.length c9 _ h1 hv false (decide_eq_false (fun e => HR2.out.2.2 e.symm))).mono ?_
  rintro e w11 ⟨rfl, hb⟩
  replace hB := hB.trans (hb.mono hB.size)
  clear fk1 fk9
  go_wp2_with fail
  go_ret
  exact ⟨by first | rfl | simp_all, hB⟩

set_option maxRecDepth 100000 in
set_option maxHeartbeats 4000000 in
theorem packetCut_s_f (p : Pk) (A : Option Addr) (n c : Nat) (B : Option Addr) (lb cb : Nat) (C : Option Addr) (lc cc : Nat) (cut : Nat) (D : Option Addr) (ld cd : Nat) (m : List UInt8) (w : World) (h : PkIn w p A n c B lb cb C lc cc) (hs : Bs w D ld cd m) (hn : n ≤ 99) (hlb : lb ≤ 3000) (hlc : lc ≤ 3000) (hld : ld ≤ 3000) (hcut : cut < 65536) (hf : fitsP p) (ht : (Lit.int .i64 p.hd.typ).wf = true) (hp : (Lit.int .i64 p.pad).wf = true) (hr : rightP p = true) (h1c : pErr ((packB p).take (cut % (packB p).length)) = 2) (h1k : 12 ≤ cut % (packB p).length) (h2l : 0 < ld) (h2c : pErr (packB p ++ m) = 5 ∧ p.hd.pad = true) :
    Calls Try.prog 5 #[pkV p A n c B lb cb C lc cc, .int .u16 cut, .slice D ld cd] w fun e w' => e = .returned (.bool true) ∧ Below w.heap.size w w' := by
  have hok := Lib.hid (fun (W : World) (h : PkIn W p A n c B lb cb C lc cc) => (⟨h, by omega, by omega, by omega, hf, ht, hp⟩ : PkOk W p A n c B lb cb C lc cc))
  have hsh : shortP p = true := by unfold shortP; rw [decide_eq_true_eq, h.us.len, h.ext.len, h.pay.len]; omega
  obtain ⟨hl1, hl2⟩ := packB_length_nat hr
  obtain ⟨hX, hE, hZ⟩ := writeP_yes (room := 65535) hr (by omega)
  have hx12 : 12 ≤ (packB p).length := by obtain ⟨T, hT⟩ := packB_head hr; rw [hT, List.length_append, headB_length]; omega
  have hz1 : readP ((packB p).take (cut % (packB p).length)) = zeroP := if_neg (by omega)
  have HR1 := Lib.hid (And.intro h1c hz1)
  clear hz1 h1c
  have hldz : ((ld : Int) == 0) = false := by rw [beq_eq_false_iff_ne]; omega
  have hz2 : readP (packB p ++ m) = zeroP := if_neg (by omega)
  have HR2 := Lib.hid (And.intro h2c.1 hz2)
  have hpd := Lib.hid h2c.2
  clear h2c hz2
  have HX := Lib.hid hX
  have HE := Lib.hid hE
  have hcm : Int.tmod (cut : Int) ((packB p).length : Int) = ((cut % (packB p).length : Nat) : Int) := by rw [Int.tmod_eq_emod_of_nonneg (by omega)]; omega
  have hkl : cut % (packB p).length ≤ (packB p).length := Nat.le_of_lt (Nat.mod_lt _ (by omega))
  have hcw : IntKind.i64.wrap (cut : Int) = (cut : Int) := IntWalk.i64_in _ (by omega)
  clear hX hE hZ hr hl1
  generalize packB p = X at *
  obtain ⟨k, hk⟩ : ∃ k, cut % X.length = k := ⟨_, rfl⟩
  rw [hk] at hcm hkl h1k
  have HK := Lib.hid hk
  clear hk
  have hk12 : decide ((k : Int) < 12) = false := decide_eq_false (by omega)
  unfold pkV
  have k1 := Box.new w [.bool p.hd.pad, .bool p.hd.ext, .bool p.hd.mark, .int .i64 p.hd.typ, .int .u16 p.hd.seq, .int .u32 p.hd.time, .int .u32 p.hd.ssrc, .slice A n c, .int .u16 p.prof, .slice B lb cb, .slice C lc cc, .int .i64 p.pad] 29
  have h1 := h.alloc (.cells #[.bool p.hd.pad, .bool p.hd.ext, .bool p.hd.mark, .int .i64 p.hd.typ, .int .u16 p.hd.seq, .int .u32 p.hd.time, .int .u32 p.hd.ssrc, .slice A n c, .int .u16 p.prof, .slice B lb cb, .slice C lc cc, .int .i64 p.pad] 29)
  have hs1 := hs.alloc (.cells #[.bool p.hd.pad, .bool p.hd.ext, .bool p.hd.mark, .int .i64 p.hd.typ, .int .u16 p.hd.seq, .int .u32 p.hd.time, .int .u32 p.hd.ssrc, .slice A n c, .int .u16 p.prof, .slice B lb cb, .slice C lc cc, .int .i64 p.pad] 29)
  have hB := below1 w (.cells #[.bool p.hd.pad, .bool p.hd.ext, .bool p.hd.mark, .int .i64 p.hd.typ, .int .u16 p.hd.seq, .int .u32 p.hd.time, .int .u32 p.hd.ssrc, .slice A n c, .int .u16 p.prof, .slice B lb cb, .slice C lc cc, .int .i64 p.pad] 29)
  go_enter Try.func5, Try.ntmps5
  go_wp2_with fail
  refine (awake_any KC _).mono ?_
  rintro e w2 ⟨rfl, hb⟩
  replace h1 := h1.below hb
  replace hs1 := hs1.below hb
  replace k1 := k1.call hb
  replace hB := hB.trans (hb.mono hB.size)
  clear hb
  have fk1 := k1.all12.1
  go_wp2_with fail
  refine (rshort_told p A n c B lb cb C lc cc _ h1 true hsh).mono ?_
  rintro e w3 ⟨rfl, hb⟩
  clear fk1
  replace h1 := h1.below hb
  replace hs1 := hs1.below hb
  replace k1 := k1.call hb
  replace hB := hB.trans (hb.mono hB.size)
  clear hb
  have fk1 := k1.all12.1
  go_wp2_with fail
  refine (write_told KC p A n c B lb cb C lc cc 65535 _ (hok.out _ h1) (by decide) X X.length 0 HX.out rfl HE.out).mono ?_
  rintro e w4 ⟨A4, c4, rfl, hx, hb⟩
  clear fk1
  replace h1 := h1.below hb
  replace hs1 := hs1.below hb
  replace k1 := k1.call hb
  replace hB := hB.trans (hb.mono hB.size)
  clear hb
  have fk1 := k1.all12.1
  obtain ⟨A5, c5, hsl, hY⟩ := hx.slice_r Try.underlying27 byte_size (r := k) hkl
  have hsl2 := fun W => hsl W (k : Int) rfl
  clear hsl
  go_wp2_with fail
  refine (KC.read A5 k c5 _ _ hY (by omega)).mono ?_
  rintro e w5 ⟨A8, a8, B8, b8, C8, c8, rfl, hq, hb⟩
  clear hsl2 hY
  rw [← HK.out, HR1.out.2] at hq ⊢
  rw [HR1.out.1]
  dsimp only [pkV, zeroP, zeroH, List.length_nil] at hq ⊢
  try rw [HK.out]
  clear fk1
  replace h1 := h1.below hb
  replace hs1 := hs1.below hb
  replace k1 := k1.call hb
  replace hx := hx.below hb
  replace hB := hB.trans (hb.mono hB.size)
  clear hb
  have k8 := Box.new w5 [.bool false, .bool false, .bool false, .int .i64 0, .int .u16 0, .int .u32 0, .int .u32 0, .slice A8 0 a8, .int .u16 0, .slice B8 0 b8, .slice C8 0 c8, .int .i64 0] 29
  replace h1 := h1.alloc (.cells #[.bool false, .bool false, .bool false, .int .i64 0, .int .u16 0, .int .u32 0, .int .u32 0, .slice A8 0 a8, .int .u16 0, .slice B8 0 b8, .slice C8 0 c8, .int .i64 0] 29)
  replace hs1 := hs1.alloc (.cells #[.bool false, .bool false, .bool false, .int .i64 0, .int .u16 0, .int .u32 0, .int .u32 0, .slice A8 0 a8, .int .u16 0, .slice B8 0 b8, .slice C8 0 c8, .int .i64 0] 29)
  replace k1 := k1.alloc (.cells #[.bool false, .bool false, .bool false, .int .i64 0, .int .u16 0, .int .u32 0, .int .u32 0, .slice A8 0 a8, .int .u16 0, .slice B8 0 b8, .slice C8 0 c8, .int .i64 0] 29)
  replace hx := hx.alloc (.cells #[.bool false, .bool false, .bool false, .int .i64 0, .int .u16 0, .int .u32 0, .int .u32 0, .slice A8 0 a8, .int .u16 0, .slice B8 0 b8, .slice C8 0 c8, .int .i64 0] 29)
  replace hB := hB.alloc hB.size (.cells #[.bool false, .bool false, .bool false, .int .i64 0, .int .u16 0, .int .u32 0, .int .u32 0, .slice A8 0 a8, .int .u16 0, .slice B8 0 b8, .slice C8 0 c8, .int .i64 0] 29)
  have fk1 := k1.all12.1
  have fk8 := k8.all12.1
  go_upto_region 14 with fail
  generalize hwz : (w5.alloc (.cells #[.bool false, .bool false, .bool false, .int .i64 0, .int .u16 0, .int .u32 0, .int .u32 0, .slice A8 0 a8, .int .u16 0, .slice B8 0 b8, .slice C8 0 c8, .int .i64 0] 29)) = wz at *
  clear hwz
  go_wp2_with (at_builtin; first
    | (refine wpList_app _ rfl (.tmp 94) (.tmp 95) 27 rfl wz.heap.size 5 Try.underlying27 byte_info (some ⟨wz.heap.size, 0, none⟩) 0 0 [] rfl (own_empty wz _ _ (Nat.le_refl _)) A4 X.length c4 X rfl (hx.alloc _) (by omega) (by simp) ?_; intro A6 c6 w6 hown6 hb6; rw [Nat.zero_add] at hown6; rw [List.nil_append] at hown6; replace hb6 : Below wz.heap.size wz w6 := ((Below.refl _ wz).alloc (Nat.le_refl _) _).trans hb6; have hsz6 := hb6.size; rw [Nat.zero_add])
    | go_loud (refine wpList_app _ rfl (.tmp 96) (.tmp 97) 27 rfl wz.heap.size 5 Try.underlying27 byte_info A6 X.length c6 X rfl hown6 D ld cd m rfl (hs1.below hb6) (by omega) (by omega) ?_; intro A7 c7 w9 hown7 hb7))
  have hb := hb6.trans hb7
  clear hown6 hb6 hb7 hsz6
  clear fk1
  clear fk8
  clear k8
  have fk1 := k1.all12.1
  clear fk1
  replace h1 := h1.below hb
  replace hs1 := hs1.below hb
  replace k1 := k1.call hb
  replace hx := hx.below hb
  replace hB := hB.trans (hb.mono hB.size)
  clear hb
  refine (KC.read A7 (X.length + ld) c7 (X ++ m) _ hown7.bs (by omega)).mono ?_
  rintro e w10 ⟨A9, a9, B9, b9, C9, c9, rfl, hv, hb⟩
  rw [HR2.out.2] at hv ⊢
  rw [HR2.out.1]
  dsimp only [pkV, zeroP, zeroH, List.length_nil] at hv ⊢
  replace h1 := h1.below hb
  replace hs1 := hs1.below hb
  replace k1 := k1.call hb
  replace hx := hx.below hb
  replace hB := hB.trans (hb.mono hB.size)
  clear hb
  have k9 := Box.new w10 [.bool false, .bool false, .bool false, .int .i64 0, .int .u16 0, .int .u32 0, .int .u32 0, .slice A9 0 a9, .int .u16 0, .slice B9 0 b9, .slice C9 0 c9, .int .i64 0] 29
  replace h1 := h1.alloc (.cells #[.bool false, .bool false, .bool false, .int .i64 0, .int .u16 0, .int .u32 0, .int .u32 0, .slice A9 0 a9, .int .u16 0, .slice B9 0 b9, .slice C9 0 c9, .int .i64 0] 29)
  replace hs1 := hs1.alloc (.cells #[.bool false, .bool false, .bool false, .int .i64 0, .int .u16 0, .int .u32 0, .int .u32 0, .slice A9 0 a9, .int .u16 0, .slice B9 0 b9, .slice C9 0 c9, .int .i64 0] 29)
  replace k1 := k1.alloc (.cells #[.bool false, .bool false, .bool false, .int .i64 0, .int .u16 0, .int .u32 0, .int .u32 0, .slice A9 0 a9, .int .u16 0, .slice B9 0 b9, .slice C9 0 c9, .int .i64 0] 29)
  replace hx := hx.alloc (.cells #[.bool false, .bool false, .bool false, .int .i64 0, .int .u16 0, .int .u32 0, .int .u32 0, .slice A9 0 a9, .int .u16 0, .slice B9 0 b9, .slice C9 0 c9, .int .i64 0] 29)
  replace hB := hB.alloc hB.size (.cells #[.bool false, .bool false, .bool false, .int .i64 0, .int .u16 0, .int .u32 0, .int .u32 0, .slice A9 0 a9, .int .u16 0, .slice B9 0 b9, .slice C9 0 c9, .int .i64 0] 29)
  have fk1 := k1.all12.1
  have fk9 := k9.all12.1
  rw [hpd.out] at fk1
  go_wp2_with fail
  go_ret
  exact ⟨by first | rfl | simp_all, hB⟩

set_option maxRecDepth 100000 in
set_option maxHeartbeats 4000000 in
theorem packetCut_t_e (p : Pk) (A : Option Addr) (n c : Nat) (B : Option Addr) (lb cb : Nat) (C : Option Addr) (lc cc : Nat) (cut : Nat) (D : Option Addr) (ld cd : Nat) (m : List UInt8) (w : World) (h : PkIn w p A n c B lb cb C lc cc) (hs : Bs w D ld cd m) (hn : n ≤ 99) (hlb : lb ≤ 3000) (hlc : lc ≤ 3000) (hld : ld ≤ 3000) (hcut : cut < 65536) (hf : fitsP p) (ht : (Lit.int .i64 p.hd.typ).wf = true) (hp : (Lit.int .i64 p.pad).wf = true) (hr : rightP p = true) (h1c : pErr ((packB p).take (cut % (packB p).length)) = 2) (h1k : cut % (packB p).length < 12) (h2c : ld = 0) :
    Calls Try.prog 5 #[pkV p A n c B lb cb C lc cc, .int .u16 cut, .slice D ld cd] w fun e w' => e = .returned (.bool true) ∧ Below w.heap.size w w' := by
  have hok := Lib.hid (fun (W : World) (h : PkIn W p A n c B lb cb C lc cc) => (⟨h, by omega, by omega, by omega, hf, ht, hp⟩ : PkOk W p A n c B lb cb C lc cc))
  have hsh : shortP p = true := by unfold shortP; rw [decide_eq_true_eq, h.us.len, h.ext.len, h.pay.len]; omega
  obtain ⟨hl1, hl2⟩ := packB_length_nat hr
  obtain ⟨hX, hE, hZ⟩ := writeP_yes (room := 65535) hr (by omega)
  have hx12 : 12 ≤ (packB p).length := by obtain ⟨T, hT⟩ := packB_head hr; rw [hT, List.length_append, headB_length]; omega
  have hz1 : readP ((packB p).take (cut % (packB p).length)) = zeroP := if_neg (by omega)
  have HR1 := Lib.hid (And.intro h1c hz1)
  clear hz1 h1c
  have hm0 : m = [] := List.eq_nil_of_length_eq_zero (by rw [hs.len]; exact h2c)
  obtain ⟨hrd1, hrd2⟩ := read_pack hr hf
  have HR2 : Hid (pErr (packB p ++ m) = 0 ∧ readP (packB p ++ m) = p) := Lib.hid (by rw [hm0, List.append_nil]; exact ⟨hrd1, hrd2⟩)
  have hldz : ((ld : Int) == 0) = true := by rw [beq_iff_eq]; omega
  clear hm0 hrd1 hrd2 h2c
  have HX := Lib.hid hX
  have HE := Lib.hid hE
  have hcm : Int.tmod (cut : Int) ((packB p).length : Int) = ((cut % (packB p).length : Nat) : Int) := by rw [Int.tmod_eq_emod_of_nonneg (by omega)]; omega
  have hkl : cut % (packB p).length ≤ (packB p).length := Nat.le_of_lt (Nat.mod_lt _ (by omega))
  have hcw : IntKind.i64.wrap (cut : Int) = (cut : Int) := IntWalk.i64_in _ (by omega)
  clear hX hE hZ hr hl1
  generalize packB p = X at *
  obtain ⟨k, hk⟩ : ∃ k, cut % X.length = k := ⟨_, rfl⟩
  rw [hk] at hcm hkl h1k
  have HK := Lib.hid hk
  clear hk
  have hk12 : decide ((k : Int) < 12) = true := decide_eq_true (by omega)
  unfold pkV
  have k1 := Box.new w [.bool p.hd.pad, .bool p.hd.ext, .bool p.hd.mark, .int .i64 p.hd.typ, .int .u16 p.hd.seq, .int .u32 p.hd.time, .int .u32 p.hd.ssrc, .slice A n c, .int .u16 p.prof, .slice B lb cb, .slice C lc cc, .int .i64 p.pad] 29
  have h1 := h.alloc (.cells #[.bool p.hd.pad, .bool p.hd.ext, .bool p.hd.mark, .int .i64 p.hd.typ, .int .u16 p.hd.seq, .int .u32 p.hd.time, .int .u32 p.hd.ssrc, .slice A n c, .int .u16 p.prof, .slice B lb cb, .slice C lc cc, .int .i64 p.pad] 29)
  have hs1 := hs.alloc (.cells #[.bool p.hd.pad, .bool p.hd.ext, .bool p.hd.mark, .int .i64 p.hd.typ, .int .u16 p.hd.seq, .int .u32 p.hd.time, .int .u32 p.hd.ssrc, .slice A n c, .int .u16 p.prof, .slice B lb cb, .slice C lc cc, .int .i64 p.pad] 29)
  have hB := below1 w (.cells #[.bool p.hd.pad, .bool p.hd.ext, .bool p.hd.mark, .int .i64 p.hd.typ, .int .u16 p.hd.seq, .int .u32 p.hd.time, .int .u32 p.hd.ssrc, .slice A n c, .int .u16 p.prof, .slice B lb cb, .slice C lc cc, .int .i64 p.pad] 29)
  go_enter Try.func5, Try.ntmps5
  go_wp2_with fail
  refine (awake_any KC _).mono ?_
  rintro e w2 ⟨rfl, hb⟩
  replace h1 := h1.below hb
  replace hs1 := hs1.below hb
  replace k1 := k1.call hb
  replace hB := hB.trans (hb.mono hB.size)
  clear hb
  have fk1 := k1.all12.1
  go_wp2_with fail
  refine (rshort_told p A n c B lb cb C lc cc _ h1 true hsh).mono ?_
  rintro e w3 ⟨rfl, hb⟩
  clear fk1
  replace h1 := h1.below hb
  replace hs1 := hs1.below hb
  replace k1 := k1.call hb
  replace hB := hB.trans (hb.mono hB.size)
  clear hb
  have fk1 := k1.all12.1
  go_wp2_with fail
  refine (write_told KC p A n c B lb cb C lc cc 65535 _ (hok.out _ h1) (by decide) X X.length 0 HX.out rfl HE.out).mono ?_
  rintro e w4 ⟨A4, c4, rfl, hx, hb⟩
  clear fk1
  replace h1 := h1.below hb
  replace hs1 := hs1.below hb
  replace k1 := k1.call hb
  replace hB := hB.trans (hb.mono hB.size)
  clear hb
  have fk1 := k1.all12.1
  obtain ⟨A5, c5, hsl, hY⟩ := hx.slice_r Try.underlying27 byte_size (r := k) hkl
  have hsl2 := fun W => hsl W (k : Int) rfl
  clear hsl
  go_wp2_with fail
  refine (KC.read A5 k c5 _ _ hY (by omega)).mono ?_
  rintro e w5 ⟨A8, a8, B8, b8, C8, c8, rfl, hq, hb⟩
  clear hsl2 hY
  rw [← HK.out, HR1.out.2] at hq ⊢
  rw [HR1.out.1]
  dsimp only [pkV, zeroP, zeroH, List.length_nil] at hq ⊢
  try rw [HK.out]
  clear fk1
  replace h1 := h1.below hb
  replace hs1 := hs1.below hb
  replace k1 := k1.call hb
  replace hx := hx.below hb
  replace hB := hB.trans (hb.mono hB.size)
  clear hb
  have k8 := Box.new w5 [.bool false, .bool false, .bool false, .int .i64 0, .int .u16 0, .int .u32 0, .int .u32 0, .slice A8 0 a8, .int .u16 0, .slice B8 0 b8, .slice C8 0 c8, .int .i64 0] 29
  replace h1 := h1.alloc (.cells #[.bool false, .bool false, .bool false, .int .i64 0, .int .u16 0, .int .u32 0, .int .u32 0, .slice A8 0 a8, .int .u16 0, .slice B8 0 b8, .slice C8 0 c8, .int .i64 0] 29)
  replace hs1 := hs1.alloc (.cells #[.bool false, .bool false, .bool false, .int .i64 0, .int .u16 0, .int .u32 0, .int .u32 0, .slice A8 0 a8, .int .u16 0, .slice B8 0 b8, .slice C8 0 c8, .int .i64 0] 29)
  replace k1 := k1.alloc (.cells #[.bool false, .bool false, .bool false, .int .i64 0, .int .u16 0, .int .u32 0, .int .u32 0, .slice A8 0 a8, .int .u16 0, .slice B8 0 b8, .slice C8 0 c8, .int .i64 0] 29)
  replace hx := hx.alloc (.cells #[.bool false, .bool false, .bool false, .int .i64 0, .int .u16 0, .int .u32 0, .int .u32 0, .slice A8 0 a8, .int .u16 0, .slice B8 0 b8, .slice C8 0 c8, .int .i64 0] 29)
  replace hB := hB.alloc hB.size (.cells #[.bool false, .bool false, .bool false, .int .i64 0, .int .u16 0, .int .u32 0, .int .u32 0, .slice A8 0 a8, .int .u16 0, .slice B8 0 b8, .slice C8 0 c8, .int .i64 0] 29)
  have fk1 := k1.all12.1
  have fk8 := k8.all12.1
  go_upto_region 14 with fail
  generalize hwz : (w5.alloc (.cells #[.bool false, .bool false, .bool false, .int .i64 0, .int .u16 0, .int .u32 0, .int .u32 0, .slice A8 0 a8, .int .u16 0, .slice B8 0 b8, .slice C8 0 c8, .int .i64 0] 29)) = wz at *
  clear hwz
  go_wp2_with (at_builtin; first
    | (refine wpList_app _ rfl (.tmp 94) (.tmp 95) 27 rfl wz.heap.size 5 Try.underlying27 byte_info (some ⟨wz.heap.size, 0, none⟩) 0 0 [] rfl (own_empty wz _ _ (Nat.le_refl _)) A4 X.length c4 X rfl (hx.alloc _) (by omega) (by simp) ?_; intro A6 c6 w6 hown6 hb6; rw [Nat.zero_add] at hown6; rw [List.nil_append] at hown6; replace hb6 : Below wz.heap.size wz w6 := ((Below.refl _ wz).alloc (Nat.le_refl _) _).trans hb6; have hsz6 := hb6.size; rw [Nat.zero_add])
    | go_loud (refine wpList_app _ rfl (.tmp 96) (.tmp 97) 27 rfl wz.heap.size 5 Try.underlying27 byte_info A6 X.length c6 X rfl hown6 D ld cd m rfl (hs1.below hb6) (by omega) (by omega) ?_; intro A7 c7 w9 hown7 hb7))
  have hb := hb6.trans hb7
  clear hown6 hb6 hb7 hsz6
  clear fk1
  clear fk8
  clear k8
  have fk1 := k1.all12.1
  clear fk1
  replace h1 := h1.below hb
  replace hs1 := hs1.below hb
  replace k1 := k1.call hb
  replace hx := hx.below hb
  replace hB := hB.trans (hb.mono hB.size)
  clear hb
  refine (KC.read A7 (X.length + ld) c7 (X ++ m) _ hown7.bs (by omega)).mono ?_
  rintro e w10 ⟨A9, a9, B9, b9, C9, c9, rfl, hv, hb⟩
  rw [HR2.out.2] at hv ⊢
  rw [HR2.out.1]
  dsimp only [pkV]
  replace h1 := h1.below hb
  replace hs1 := hs1.below hb
  replace k1 := k1.call hb
  replace hx := hx.below hb
  replace hB := hB.trans (hb.mono hB.size)
  clear hb
  have k9 := Box.new w10 [.bool p.hd.pad, .bool p.hd.ext, .bool p.hd.mark, .int .i64 p.hd.typ, .int .u16 p.hd.seq, .int .u32 p.hd.time, .int .u32 p.hd.ssrc, .slice A9 p.hd.csrc.length a9, .int .u16 p.prof, .slice B9 p.ext.length b9, .slice C9 p.pay.length c9, .int .i64 p.pad] 29
  replace h1 := h1.alloc (.cells #[.bool p.hd.pad, .bool p.hd.ext, .bool p.hd.mark, .int .i64 p.hd.typ, .int .u16 p.hd.seq, .int .u32 p.hd.time, .int .u32 p.hd.ssrc, .slice A9 p.hd.csrc.length a9, .int .u16 p.prof, .slice B9 p.ext.length b9, .slice C9 p.pay.length c9, .int .i64 p.pad] 29)
  replace hs1 := hs1.alloc (.cells #[.bool p.hd.pad, .bool p.hd.ext, .bool p.hd.mark, .int .i64 p.hd.typ, .int .u16 p.hd.seq, .int .u32 p.hd.time, .int .u32 p.hd.ssrc, .slice A9 p.hd.csrc.length a9, .int .u16 p.prof, .slice B9 p.ext.length b9, .slice C9 p.pay.length c9, .int .i64 p.pad] 29)
  replace k1 := k1.alloc (.cells #[.bool p.hd.pad, .bool p.hd.ext, .bool p.hd.mark, .int .i64 p.hd.typ, .int .u16 p.hd.seq, .int .u32 p.hd.time, .int .u32 p.hd.ssrc, .slice A9 p.hd.csrc.length a9, .int .u16 p.prof, .slice B9 p.ext.length b9, .slice C9 p.pay.length c9, .int .i64 p.pad] 29)
  replace hx := hx.alloc (.cells #[.bool p.hd.pad, .bool p.hd.ext, .bool p.hd.mark, .int .i64 p.hd.typ, .int .u16 p.hd.seq, .int .u32 p.hd.time, .int .u32 p.hd.ssrc, .slice A9 p.hd.csrc.length a9, .int .u16 p.prof, .slice B9 p.ext.length b9, .slice C9 p.pay.length c9, .int .i64 p.pad] 29)
  replace hv := hv.alloc (.cells #[.bool p.hd.pad, .bool p.hd.ext, .bool p.hd.mark, .int .i64 p.hd.typ, .int .u16 p.hd.seq, .int .u32 p.hd.time, .int .u32 p.hd.ssrc, .slice A9 p.hd.csrc.length a9, .int .u16 p.prof, .slice B9 p.ext.length b9, .slice C9 p.pay.length c9, .int .i64 p.pad] 29)
  replace hB := hB.alloc hB.size (.cells #[.bool p.hd.pad, .bool p.hd.ext, .bool p.hd.mark, .int .i64 p.hd.typ, .int .u16 p.hd.seq, .int .u32 p.hd.time, .int .u32 p.hd.ssrc, .slice A9 p.hd.csrc.length a9, .int .u16 p.prof, .slice B9 p.ext.length b9, .slice C9 p.pay.length c9, .int .i64 p.pad] 29)
  have fk1 := k1.all12.1
  have fk9 := k9.all12.1
  go_wp2_with fail
  refine (rsameP_told p A n c B lb cb C lc cc p A9 p.hd.csrc.length a9 B9 p.ext.length b9 C9 p.pay.length c9 _ h1 hv true (decide_eq_true rfl)).mono ?_
  rintro e w11 ⟨rfl, hb⟩
  replace hB := hB.trans (hb.mono hB.size)
  clear fk1 fk9
  go_wp2_with fail
  go_ret
  exact ⟨by first | rfl | simp_all, hB⟩

set_option maxRecDepth 100000 in
set_option maxHeartbeats 4000000 in
theorem packetCut_t_q (p : Pk) (A : Option Addr) (n c : Nat) (B : Option Addr) (lb cb : Nat) (C : Option Addr) (lc cc : Nat) (cut : Nat) (D : Option Addr) (ld cd : Nat) (m : List UInt8) (w : World) (h : PkIn w p A n c B lb cb C lc cc) (hs : Bs w D ld cd m) (hn : n ≤ 99) (hlb : lb ≤ 3000) (hlc : lc ≤ 3000) (hld : ld ≤ 3000) (hcut : cut < 65536) (hf : fitsP p) (ht : (Lit.int .i64 p.hd.typ).wf = true) (hp : (Lit.int .i64 p.pad).wf = true) (hr : rightP p = true) (h1c : pErr ((packB p).take (cut % (packB p).length)) = 2) (h1k : cut % (packB p).length < 12) (h2l : 0 < ld) (h2c : pErr (packB p ++ m) = 0 ∧ readP (packB p ++ m) ≠ p) :
    Calls Try.prog 5 #[pkV p A n c B lb cb C lc cc, .int .u16 cut, .slice D ld cd] w fun e w' => e = .returned (.bool true) ∧ Below w.heap.size w w' := by
  have hok := Lib.hid (fun (W : World) (h : PkIn W p A n c B lb cb C lc cc) => (⟨h, by omega, by omega, by omega, hf, ht, hp⟩ : PkOk W p A n c B lb cb C lc cc))
  have hsh : shortP p = true := by unfold shortP; rw [decide_eq_true_eq, h.us.len, h.ext.len, h.pay.len]; omega
  obtain ⟨hl1, hl2⟩ := packB_length_nat hr
  obtain ⟨hX, hE, hZ⟩ := writeP_yes (room := 65535) hr (by omega)
  have hx12 : 12 ≤ (packB p).length := by obtain ⟨T, hT⟩ := packB_head hr; rw [hT, List.length_append, headB_length]; omega
  have hz1 : readP ((packB p).take (cut % (packB p).length)) = zeroP := if_neg (by omega)
  have HR1 := Lib.hid (And.intro h1c hz1)
  clear hz1 h1c
  have hldz : ((ld : Int) == 0) = false := by rw [beq_eq_false_iff_ne]; omega
  obtain ⟨r2, hr2⟩ : ∃ r2, readP (packB p ++ m) = r2 := ⟨_, rfl⟩
  rw [hr2] at h2c
  have HR2 := Lib.hid (And.intro h2c.1 (And.intro hr2 h2c.2))
  clear h2c hr2
  have HX := Lib.hid hX
  have HE := Lib.hid hE
  have hcm : Int.tmod (cut : Int) ((packB p).length : Int) = ((cut % (packB p).length : Nat) : Int) := by rw [Int.tmod_eq_emod_of_nonneg (by omega)]; omega
  have hkl : cut % (packB p).length ≤ (packB p).length := Nat.le_of_lt (Nat.mod_lt _ (by omega))
  have hcw : IntKind.i64.wrap (cut : Int) = (cut : Int) := IntWalk.i64_in _ (by omega)
  clear hX hE hZ hr hl1
  generalize packB p = X at *
  obtain ⟨k, hk⟩ : ∃ k, cut % X.length = k := ⟨_, rfl⟩
  rw [hk] at hcm hkl h1k
  have HK := Lib.hid hk
  clear hk
  have hk12 : decide ((k : Int) < 12) = true := decide_eq_true (by omega)
  unfold pkV
  have k1 := Box.new w [.bool p.hd.pad, .bool p.hd.ext, .bool p.hd.mark, .int .i64 p.hd.typ, .int .u16 p.hd.seq, .int .u32 p.hd.time, .int .u32 p.hd.ssrc, .slice A n c, .int .u16 p.prof, .slice B lb cb, .slice C lc cc, .int .i64 p.pad] 29
  have h1 := h.alloc (.cells #[.bool p.hd.pad, .bool p.hd.ext, .bool p.hd.mark, .int .i64 p.hd.typ, .int .u16 p.hd.seq, .int .u32 p.hd.time, .int .u32 p.hd.ssrc, .slice A n c, .int .u16 p.prof, .slice B lb cb, .slice C lc cc, .int .i64 p.pad] 29)
  have hs1 := hs.alloc (.cells #[.bool p.hd.pad, .bool p.hd.ext, .bool p.hd.mark, .int .i64 p.hd.typ, .int .u16 p.hd.seq, .int .u32 p.hd.time, .int .u32 p.hd.ssrc, .slice A n c, .int .u16 p.prof, .slice B lb cb, .slice C lc cc, .int .i64 p.pad] 29)
  have hB := below1 w (.cells #[.bool p.hd.pad, .bool p.hd.ext, .bool p.hd.mark, .int .i64 p.hd.typ, .int .u16 p.hd.seq, .int .u32 p.hd.time, .int .u32 p.hd.ssrc, .slice A n c, .int .u16 p.prof, .slice B lb cb, .slice C lc cc, .int .i64 p.pad] 29)
  go_enter Try.func5, Try.ntmps5
  go_wp2_with fail
  refine (awake_any KC _).mono ?_
  rintro e w2 ⟨rfl, hb⟩
  replace h1 := h1.below hb
  replace hs1 := hs1.below hb
  replace k1 := k1.call hb
  replace hB := hB.trans (hb.mono hB.size)
  clear hb
  have fk1 := k1.all12.1
  go_wp2_with fail
  refine (rshort_told p A n c B lb cb C lc cc _ h1 true hsh).mono ?_
  rintro e w3 ⟨rfl, hb⟩
  clear fk1
  replace h1 := h1.below hb
  replace hs1 := hs1.below hb
  replace k1 := k1.call hb
  replace hB := hB.trans (hb.mono hB.size)
  clear hb
  have fk1 := k1.all12.1
  go_wp2_with fail
  refine (write_told KC p A n c B lb cb C lc cc 65535 _ (hok.out _ h1) (by decide) X X.length 0 HX.out rfl HE.out).mono ?_
  rintro e w4 ⟨A4, c4, rfl, hx, hb⟩
  clear fk1
  replace h1 := h1.below hb
  replace hs1 := hs1.below hb
  replace k1 := k1.call hb
  replace hB := hB.trans (hb.mono hB.size)
  clear hb
  have fk1 := k1.all12.1
  obtain ⟨A5, c5, hsl, hY⟩ := hx.slice_r Try.underlying27 byte_size (r := k) hkl
  have hsl2 := fun W => hsl W (k : Int) rfl
  clear hsl
  go_wp2_with fail
  refine (KC.read A5 k c5 _ _ hY (by omega)).mono ?_
  rintro e w5 ⟨A8, a8, B8, b8, C8, c8, rfl, hq, hb⟩
  clear hsl2 hY
  rw [← HK.out, HR1.out.2] at hq ⊢
  rw [HR1.out.1]
  dsimp only [pkV, zeroP, zeroH, List.length_nil] at hq ⊢
  try rw [HK.out]
  clear fk1
  replace h1 := h1.below hb
  replace hs1 := hs1.below hb
  replace k1 := k1.call hb
  replace hx := hx.below hb
  replace hB := hB.trans (hb.mono hB.size)
  clear hb
  have k8 := Box.new w5 [.bool false, .bool false, .bool false, .int .i64 0, .int .u16 0, .int .u32 0, .int .u32 0, .slice A8 0 a8, .int .u16 0, .slice B8 0 b8, .slice C8 0 c8, .int .i64 0] 29
  replace h1 := h1.alloc (.cells #[.bool false, .bool false, .bool false, .int .i64 0, .int .u16 0, .int .u32 0, .int .u32 0, .slice A8 0 a8, .int .u16 0, .slice B8 0 b8, .slice C8 0 c8, .int .i64 0] 29)
  replace hs1 := hs1.alloc (.cells #[.bool false, .bool false, .bool false, .int .i64 0, .int .u16 0, .int .u32 0, .int .u32 0, .slice A8 0 a8, .int .u16 0, .slice B8 0 b8, .slice C8 0 c8, .int .i64 0] 29)
  replace k1 := k1.alloc (.cells #[.bool false, .bool false, .bool false, .int .i64 0, .int .u16 0, .int .u32 0, .int .u32 0, .slice A8 0 a8, .int .u16 0, .slice B8 0 b8, .slice C8 0 c8, .int .i64 0] 29)
  replace hx := hx.alloc (.cells #[.bool false, .bool false, .bool false, .int .i64 0, .int .u16 0, .int .u32 0, .int .u32 0, .slice A8 0 a8, .int .u16 0, .slice B8 0 b8, .slice C8 0 c8, .int .i64 0] 29)
  replace hB := hB.alloc hB.size (.cells #[.bool false, .bool false, .bool false, .int .i64 0, .int .u16 0, .int .u32 0, .int .u32 0, .slice A8 0 a8, .int .u16 0, .slice B8 0 b8, .slice C8 0 c8, .int .i64 0] 29)
  have fk1 := k1.all12.1
  have fk8 := k8.all12.1
  go_upto_region 14 with fail
  generalize hwz : (w5.alloc (.cells #[.bool false, .bool false, .bool false, .int .i64 0, .int .u16 0, .int .u32 0, .int .u32 0, .slice A8 0 a8, .int .u16 0, .slice B8 0 b8, .slice C8 0 c8, .int .i64 0] 29)) = wz at *
  clear hwz
  go_wp2_with (at_builtin; first
    | (refine wpList_app _ rfl (.tmp 94) (.tmp 95) 27 rfl wz.heap.size 5 Try.underlying27 byte_info (some ⟨wz.heap.size, 0, none⟩) 0 0 [] rfl (own_empty wz _ _ (Nat.le_refl _)) A4 X.length c4 X rfl (hx.alloc _) (by omega) (by simp) ?_; intro A6 c6 w6 hown6 hb6; rw [Nat.zero_add] at hown6; rw [List.nil_append] at hown6; replace hb6 : Below wz.heap.size wz w6 := ((Below.refl _ wz).alloc (Nat.le_refl _) _).trans hb6; have hsz6 := hb6.size; rw [Nat.zero_add])
    | go_loud (refine wpList_app _ rfl (.tmp 96) (.tmp 97) 27 rfl wz.heap.size 5 Try.underlying27 byte_info A6 X.length c6 X rfl hown6 D ld cd m rfl (hs1.below hb6) (by omega) (by omega) ?_; intro A7 c7 w9 hown7 hb7))
  have hb := hb6.trans hb7
  clear hown6 hb6 hb7 hsz6
  clear fk1
  clear fk8
  clear k8
  have fk1 := k1.all12.1
  clear fk1
  replace h1 := h1.below hb
  replace hs1 := hs1.below hb
  replace k1 := k1.call hb
  replace hx := hx.below hb
  replace hB := hB.trans (hb.mono hB.size)
  clear hb
  refine (KC.read A7 (X.length + ld) c7 (X ++ m) _ hown7.bs (by omega)).mono ?_
  rintro e w10 ⟨A9, a9, B9, b9, C9, c9, rfl, hv, hb⟩
  rw [HR2.out.2.1] at hv ⊢
  rw [HR2.out.1]
  dsimp only [pkV]
  replace h1 := h1.below hb
  replace hs1 := hs1.below hb
  replace k1 := k1.call hb
  replace hx := hx.below hb
  replace hB := hB.trans (hb.mono hB.size)
  clear hb
  have k9 := Box.new w10 [.bool r2.hd.pad, .bool r2.hd.ext, .bool r2.hd.mark, .int .i64 r2.hd.typ, .int .u16 r2.hd.seq, .int .u32 r2.hd.time, .int .u32 r2.hd.ssrc, .slice A9 r2.hd.csrc.length a9, .int .u16 r2.prof, .slice B9 r2.ext.length b9, .slice C9 r2.pay.length c9, .int .i64 r2.pad] 29
  replace h1 := h1.alloc (.cells #[.bool r2.hd.pad, .bool r2.hd.ext, .bool r2.hd.mark, .int .i64 r2.hd.typ, .int .u16 r2.hd.seq, .int .u32 r2.hd.time, .int .u32 r2.hd.ssrc, .slice A9 r2.hd.csrc.length a9, .int .u16 r2.prof, .slice B9 r2.ext.length b9, .slice C9 r2.pay.length c9, .int .i64 r2.pad] 29)
  replace hs1 := hs1.alloc (.cells #[.bool r2.hd.pad, .bool r2.hd.ext, .bool r2.hd.mark, .int .i64 r2.hd.typ, .int .u16 r2.hd.seq, .int .u32 r2.hd.time, .int .u32 r2.hd.ssrc, .slice A9 r2.hd.csrc.length a9, .int .u16 r2.prof, .slice B9 r2.ext.length b9, .slice C9 r2.pay.length c9, .int .i64 r2.pad] 29)
  replace k1 := k1.alloc (.cells #[.bool r2.hd.pad, .bool r2.hd.ext, .bool r2.hd.mark, .int .i64 r2.hd.typ, .int .u16 r2.hd.seq, .int .u32 r2.hd.time, .int .u32 r2.hd.ssrc, .slice A9 r2.hd.csrc.length a9, .int .u16 r2.prof, .slice B9 r2.ext.length b9, .slice C9 r2.pay.length c9, .int .i64 r2.pad] 29)
  replace hx := hx.alloc (.cells #[.bool r2.hd.pad, .bool r2.hd.ext, .bool r2.hd.mark, .int .i64 r2.hd.typ, .int .u16 r2.hd.seq, .int .u32 r2.hd.time, .int .u32 r2.hd.ssrc, .slice A9 r2.hd.csrc.length a9, .int .u16 r2.prof, .slice B9 r2.ext.length b9, .slice C9 r2.pay.length c9, .int .i64 r2.pad] 29)
  replace hv := hv.alloc (.cells #[.bool r2.hd.pad, .bool r2.hd.ext, .bool r2.hd.mark, .int .i64 r2.hd.typ, .int .u16 r2.hd.seq, .int .u32 r2.hd.time, .int .u32 r2.hd.ssrc, .slice A9 r2.hd.csrc.length a9, .int .u16 r2.prof, .slice B9 r2.ext.length b9, .slice C9 r2.pay.length c9, .int .i64 r2.pad] 29)
  replace hB := hB.alloc hB.size (.cells #[.bool r2.hd.pad, .bool r2.hd.ext, .bool r2.hd.mark, .int .i64 r2.hd.typ, .int .u16 r2.hd.seq, .int .u32 r2.hd.time, .int .u32 r2.hd.ssrc, .slice A9 r2.hd.csrc.length a9, .int .u16 r2.prof, .slice B9 r2.ext.length b9, .slice C9 r2.pay.length c9, .int .i64 r2.pad] 29)
  have fk1 := k1.all12.1
  have fk9 := k9.all12.1
  go_wp2_with fail
  refine (rsameP_told p A n c B lb cb C lc cc r2 A9 r2.hd.csrc.length a9 B9 r2.ext.length b9 C9 r2.pay.length c9 _ h1 hv false (decide_eq_false (fun e => HR2.out.2.2 e.symm))).mono ?_
  rintro e w11 ⟨rfl, hb⟩
  replace hB := hB.trans (hb.mono hB.size)
  clear fk1 fk9
  go_wp2_with fail
  go_ret
  exact ⟨by first | rfl | simp_all, hB⟩

set_option maxRecDepth 100000 in
set_option maxHeartbeats 4000000 in
theorem packetCut_t_f (p : Pk) (A : Option Addr) (n c : Nat) (B : Option Addr) (lb cb : Nat) (C : Option Addr) (lc cc : Nat) (cut : Nat) (D : Option Addr) (ld cd : Nat) (m : List UInt8) (w : World) (h : PkIn w p A n c B lb cb C lc cc) (hs : Bs w D ld cd m) (hn : n ≤ 99) (hlb : lb ≤ 3000) (hlc : lc ≤ 3000) (hld : ld ≤ 3000) (hcut : cut < 65536) (hf : fitsP p) (ht : (Lit.int .i64 p.hd.typ).wf = true) (hp : (Lit.int .i64 p.pad).wf = true) (hr : rightP p = true) (h1c : pErr ((packB p).take (cut % (packB p).length)) = 2) (h1k : cut % (packB p).length < 12) (h2l : 0 < ld) (h2c : pErr (packB p ++ m) = 5 ∧ p.hd.pad = true) :
    Calls Try.prog 5 #[pkV p A n c B lb cb C lc cc, .int .u16 cut, .slice D ld cd] w fun e w' => e = .returned (.bool true) ∧ Below w.heap.size w w' := by
  have hok := Lib.hid (fun (W : World) (h : PkIn W p A n c B lb cb C lc cc) => (⟨h, by omega, by omega, by omega, hf, ht, hp⟩ : PkOk W p A n c B lb cb C lc cc))
  have hsh : shortP p = true := by unfold shortP; rw [decide_eq_true_eq, h.us.len, h.ext.len, h.pay.len]; omega
  obtain ⟨hl1, hl2⟩ := packB_length_nat hr
  obtain ⟨hX, hE, hZ⟩ := writeP_yes (room := 65535) hr (by omega)
  have hx12 : 12 ≤ (packB p).length := by obtain ⟨T, hT⟩ := packB_head hr; rw [hT, List.length_append, headB_length]; omega
  have hz1 : readP ((packB p).take (cut % (packB p).length)) = zeroP := if_neg (by omega)
  have HR1 := Lib.hid (And.intro h1c hz1)
  clear hz1 h1c
  have hldz : ((ld : Int) == 0) = false := by rw [beq_eq_false_iff_ne]; omega
  have hz2 : readP (packB p ++ m) = zeroP := if_neg (by omega)
  have HR2 := Lib.hid (And.intro h2c.1 hz2)
  have hpd := Lib.hid h2c.2
  clear h2c hz2
  have HX := Lib.hid hX
  have HE := Lib.hid hE
  have hcm : Int.tmod (cut : Int) ((packB p).length : Int) = ((cut % (packB p).length : Nat) : Int) := by rw [Int.tmod_eq_emod_of_nonneg (by omega)]; omega
  have hkl : cut % (packB p).length ≤ (packB p).length := Nat.le_of_lt (Nat.mod_lt _ (by omega))
  have hcw : IntKind.i64.wrap (cut : Int) = (cut : Int) := IntWalk.i64_in _ (by omega)
  clear hX hE hZ hr hl1
  generalize packB p = X at *
  obtain ⟨k, hk⟩ : ∃ k, cut % X.length = k := ⟨_, rfl⟩
  rw [hk] at hcm hkl h1k
  have HK := Lib.hid hk
  clear hk
  have hk12 : decide ((k : Int) < 12) = true := decide_eq_true (by omega)
  unfold pkV
  have k1 := Box.new w [.bool p.hd.pad, .bool p.hd.ext, .bool p.hd.mark, .int .i64 p.hd.typ, .int .u16 p.hd.seq, .int .u32 p.hd.time, .int .u32 p.hd.ssrc, .slice A n c, .int .u16 p.prof, .slice B lb cb, .slice C lc cc, .int .i64 p.pad] 29
  have h1 := h.alloc (.cells #[.bool p.hd.pad, .bool p.hd.ext, .bool p.hd.mark, .int .i64 p.hd.typ, .int .u16 p.hd.seq, .int .u32 p.hd.time, .int .u32 p.hd.ssrc, .slice A n c, .int .u16 p.prof, .slice B lb cb, .slice C lc cc, .int .i64 p.pad] 29)
  have hs1 := hs.alloc (.cells #[.bool p.hd.pad, .bool p.hd.ext, .bool p.hd.mark, .int .i64 p.hd.typ, .int .u16 p.hd.seq, .int .u32 p.hd.time, .int .u32 p.hd.ssrc, .slice A n c, .int .u16 p.prof, .slice B lb cb, .slice C lc cc, .int .i64 p.pad] 29)
  have hB := below1 w (.cells #[.bool p.hd.pad, .bool p.hd.ext, .bool p.hd.mark, .int .i64 p.hd.typ, .int .u16 p.hd.seq, .int .u32 p.hd.time, .int .u32 p.hd.ssrc, .slice A n c, .int .u16 p.prof, .slice B lb cb, .slice C lc cc, .int .i64 p.pad] 29)
  go_enter Try.func5, Try.ntmps5
  go_wp2_with fail
  refine (awake_any KC _).mono ?_
  rintro e w2 ⟨rfl, hb⟩
  replace h1 := h1.below hb
  replace hs1 := hs1.below hb
  replace k1 := k1.call hb
  replace hB := hB.trans (hb.mono hB.size)
  clear hb
  have fk1 := k1.all12.1
  go_wp2_with fail
  refine (rshort_told p A n c B lb cb C lc cc _ h1 true hsh).mono ?_
  rintro e w3 ⟨rfl, hb⟩
  clear fk1
  replace h1 := h1.below hb
  replace hs1 := hs1.below hb
  replace k1 := k1.call hb
  replace hB := hB.trans (hb.mono hB.size)
  clear hb
  have fk1 := k1.all12.1
  go_wp2_with fail
  refine (write_told KC p A n c B lb cb C lc cc 65535 _ (hok.out _ h1) (by decide) X X.length 0 HX.out rfl HE.out).mono ?_
  rintro e w4 ⟨A4, c4, rfl, hx, hb⟩
  clear fk1
  replace h1 := h1.below hb
  replace hs1 := hs1.below hb
  replace k1 := k1.call hb
  replace hB := hB.trans (hb.mono hB.size)
  clear hb
  have fk1 := k1.all12.1
  obtain ⟨A5, c5, hsl, hY⟩ := hx.slice_r Try.underlying27 byte_size (r := k) hkl
  have hsl2 := fun W => hsl W (k : Int) rfl
  clear hsl
  go_wp2_with fail
  refine (KC.read A5 k c5 _ _ hY (by omega)).mono ?_
  rintro e w5 ⟨A8, a8, B8, b8, C8, c8, rfl, hq, hb⟩
  clear hsl2 hY
  rw [← HK.out, HR1.out.2] at hq ⊢
  rw [HR1.out.1]
  dsimp only [pkV, zeroP, zeroH, List.length_nil] at hq ⊢
  try rw [HK.out]
  clear fk1
  replace h1 := h1.below hb
  replace hs1 := hs1.below hb
  replace k1 := k1.call hb
  replace hx := hx.below hb
  replace hB := hB.trans (hb.mono hB.size)
  clear hb
  have k8 := Box.new w5 [.bool false, .bool false, .bool false, .int .i64 0, .int .u16 0, .int .u32 0, .int .u32 0, .slice A8 0 a8, .int .u16 0, .slice B8 0 b8, .slice C8 0 c8, .int .i64 0] 29
  replace h1 := h1.alloc (.cells #[.bool false, .bool false, .bool false, .int .i64 0, .int .u16 0, .int .u32 0, .int .u32 0, .slice A8 0 a8, .int .u16 0, .slice B8 0 b8, .slice C8 0 c8, .int .i64 0] 29)
  replace hs1 := hs1.alloc (.cells #[.bool false, .bool false, .bool false, .int .i64 0, .int .u16 0, .int .u32 0, .int .u32 0, .slice A8 0 a8, .int .u16 0, .slice B8 0 b8, .slice C8 0 c8, .int .i64 0] 29)
  replace k1 := k1.alloc (.cells #[.bool false, .bool false, .bool false, .int .i64 0, .int .u16 0, .int .u32 0, .int .u32 0, .slice A8 0 a8, .int .u16 0, .slice B8 0 b8, .slice C8 0 c8, .int .i64 0] 29)
  replace hx := hx.alloc (.cells #[.bool false, .bool false, .bool false, .int .i64 0, .int .u16 0, .int .u32 0, .int .u32 0, .slice A8 0 a8, .int .u16 0, .slice B8 0 b8, .slice C8 0 c8, .int .i64 0] 29)
  replace hB := hB.alloc hB.size (.cells #[.bool false, .bool false, .bool false, .int .i64 0, .int .u16 0, .int .u32 0, .int .u32 0, .slice A8 0 a8, .int .u16 0, .slice B8 0 b8, .slice C8 0 c8, .int .i64 0] 29)
  have fk1 := k1.all12.1
  have fk8 := k8.all12.1
  go_upto_region 14 with fail
  generalize hwz : (w5.alloc (.cells #[.bool false, .bool false, .bool false, .int .i64 0, .int .u16 0, .int .u32 0, .int .u32 0, .slice A8 0 a8, .int .u16 0, .slice B8 0 b8, .slice C8 0 c8, .int .i64 0] 29)) = wz at *
  clear hwz
  go_wp2_with (at_builtin; first
    | (refine wpList_app _ rfl (.tmp 94) (.tmp 95) 27 rfl wz.heap.size 5 Try.underlying27 byte_info (some ⟨wz.heap.size, 0, none⟩) 0 0 [] rfl (own_empty wz _ _ (Nat.le_refl _)) A4 X.length c4 X rfl (hx.alloc _) (by omega) (by simp) ?_; intro A6 c6 w6 hown6 hb6; rw [Nat.zero_add] at hown6; rw [List.nil_append] at hown6; replace hb6 : Below wz.heap.size wz w6 := ((Below.refl _ wz).alloc (Nat.le_refl _) _).trans hb6; have hsz6 := hb6.size; rw [Nat.zero_add])
    | go_loud (refine wpList_app _ rfl (.tmp 96) (.tmp 97) 27 rfl wz.heap.size 5 Try.underlying27 byte_info A6 X.length c6 X rfl hown6 D ld cd m rfl (hs1.below hb6) (by omega) (by omega) ?_; intro A7 c7 w9 hown7 hb7))
  have hb := hb6.trans hb7
  clear hown6 hb6 hb7 hsz6
  clear fk1
  clear fk8
  clear k8
  have fk1 := k1.all12.1
  clear fk1
  replace h1 := h1.below hb
  replace hs1 := hs1.below hb
  replace k1 := k1.call hb
  replace hx := hx.below hb
  replace hB := hB.trans (hb.mono hB.size)
  clear hb
  refine (KC.read A7 (X.length + ld) c7 (X ++ m) _ hown7.bs (by omega)).mono ?_
  rintro e w10 ⟨A9, a9, B9, b9, C9, c9, rfl, hv, hb⟩
  rw [HR2.out.2] at hv ⊢
  rw [HR2.out.1]
  dsimp only [pkV, zeroP, zeroH, List.length_nil] at hv ⊢
  replace h1 := h1.below hb
  replace hs1 := hs1.below hb
  replace k1 := k1.call hb
  replace hx := hx.below hb
  replace hB := hB.trans (hb.mono hB.size)
  clear hb
  have k9 := Box.new w10 [.bool false, .bool false, .bool false, .int .i64 0, .int .u16 0, .int .u32 0, .int .u32 0, .slice A9 0 a9, .int .u16 0, .slice B9 0 b9, .slice C9 0 c9, .int .i64 0] 29
  replace h1 := h1.alloc (.cells #[.bool false, .bool false, .bool false, .int .i64 0, .int .u16 0, .int .u32 0, .int .u32 0, .slice A9 0 a9, .int .u16 0, .slice B9 0 b9, .slice C9 0 c9, .int .i64 0] 29)
  replace hs1 := hs1.alloc (.cells #[.bool false, .bool false, .bool false, .int .i64 0, .int .u16 0, .int .u32 0, .int .u32 0, .slice A9 0 a9, .int .u16 0, .slice B9 0 b9, .slice C9 0 c9, .int .i64 0] 29)
  replace k1 := k1.alloc (.cells #[.bool false, .bool false, .bool false, .int .i64 0, .int .u16 0, .int .u32 0, .int .u32 0, .slice A9 0 a9, .int .u16 0, .slice B9 0 b9, .slice C9 0 c9, .int .i64 0] 29)
  replace hx := hx.alloc (.cells #[.bool false, .bool false, .bool false, .int .i64 0, .int .u16 0, .int .u32 0, .int .u32 0, .slice A9 0 a9, .int .u16 0, .slice B9 0 b9, .slice C9 0 c9, .int .i64 0] 29)
  replace hB := hB.alloc hB.size (.cells #[.bool false, .bool false, .bool false, .int .i64 0, .int .u16 0, .int .u32 0, .int .u32 0, .slice A9 0 a9, .int .u16 0, .slice B9 0 b9, .slice C9 0 c9, .int .i64 0] 29)
  have fk1 := k1.all12.1
  have fk9 := k9.all12.1
  rw [hpd.out] at fk1
  go_wp2_with fail
  go_ret
  exact ⟨by first | rfl | simp_all, hB⟩

set_option maxRecDepth 100000 in
set_option maxHeartbeats 1000000 in
theorem packetCut_big (p : Pk) (A : Option Addr) (n c : Nat) (B : Option Addr) (lb cb : Nat) (C : Option Addr) (lc cc : Nat) (cut : Nat) (D : Option Addr) (ld cd : Nat) (w : World) (h : PkIn w p A n c B lb cb C lc cc) (hd : (ld : Int) ≤ 9223372036854775807) (hdb : (lb : Int) ≤ 9223372036854775807) (hdc : (lc : Int) ≤ 9223372036854775807) (hb : shortP p = false ∨ 3000 < ld ∨ 3000 < lc ∨ 3000 < lb) :
    Calls Try.prog 5 #[pkV p A n c B lb cb C lc cc, .int .u16 cut, .slice D ld cd] w fun e w' => e = .returned (.bool true) ∧ Below w.heap.size w w' := by
  obtain ⟨b, hsb⟩ : ∃ b, shortP p = b := ⟨_, rfl⟩
  rw [hsb] at hb
  have Hb := Lib.hid hb
  clear hb
  unfold pkV
  have k1 := Box.new w [.bool p.hd.pad, .bool p.hd.ext, .bool p.hd.mark, .int .i64 p.hd.typ, .int .u16 p.hd.seq, .int .u32 p.hd.time, .int .u32 p.hd.ssrc, .slice A n c, .int .u16 p.prof, .slice B lb cb, .slice C lc cc, .int .i64 p.pad] 29
  have h1 := h.alloc (.cells #[.bool p.hd.pad, .bool p.hd.ext, .bool p.hd.mark, .int .i64 p.hd.typ, .int .u16 p.hd.seq, .int .u32 p.hd.time, .int .u32 p.hd.ssrc, .slice A n c, .int .u16 p.prof, .slice B lb cb, .slice C lc cc, .int .i64 p.pad] 29)
  have hB := below1 w (.cells #[.bool p.hd.pad, .bool p.hd.ext, .bool p.hd.mark, .int .i64 p.hd.typ, .int .u16 p.hd.seq, .int .u32 p.hd.time, .int .u32 p.hd.ssrc, .slice A n c, .int .u16 p.prof, .slice B lb cb, .slice C lc cc, .int .i64 p.pad] 29)
  go_enter Try.func5, Try.ntmps5
  go_wp2_with fail
  refine (awake_any KC _).mono ?_
  rintro e w2 ⟨rfl, hb⟩
  replace k1 := k1.call hb
  replace h1 := h1.below hb
  replace hB := hB.trans (hb.mono hB.size)
  clear hb
  have f1 := k1.all12.1
  go_wp2_with fail
  refine (rshort_told p A n c B lb cb C lc cc _ h1 b hsb).mono ?_
  rintro e w3 ⟨rfl, hb⟩
  replace k1 := k1.call hb
  replace hB := hB.trans (hb.mono hB.size)
  clear f1
  have f1 := k1.all12.1
  cases b with
  | false =>
    go_wp2_with fail
    go_ret
    exact ⟨rfl, hB⟩
  | true =>
    have h7 : 3000 < ld ∨ 3000 < lc ∨ 3000 < lb := by rcases Hb.out with h | h; · cases h
                                                      · exact h
    rcases Nat.lt_or_ge 3000 ld with g1 | g1
    · have d1 : (3000 : Int) < ld := by omega
      clear h7
      go_wp2_with fail
      go_ret
      exact ⟨rfl, hB⟩
    · have d1 : ¬ (3000 : Int) < ld := by omega
      have e1 : decide (3000 < ld) = false := decide_eq_false (by omega)
      rcases Nat.lt_or_ge 3000 lc with g2 | g2
      · have d2 : (3000 : Int) < lc := by omega
        have e2 : decide (3000 < lc) = true := decide_eq_true (by omega)
        clear h7
        go_wp2_with fail
        all_goals
          go_ret
          exact ⟨by first | rfl | simp, hB⟩
      · have d2 : ¬ (3000 : Int) < lc := by omega
        have e2 : decide (3000 < lc) = false := decide_eq_false (by omega)
        have g3 : 3000 < lb := by omega
        have e3 : decide (3000 < lb) = true := decide_eq_true (by omega)
        have d3 : (3000 : Int) < lb := by omega
        clear h7
        go_wp2_with fail
        all_goals
          go_ret
          exact ⟨by first | rfl | simp, hB⟩

set_option maxRecDepth 100000 in
set_option maxHeartbeats 1000000 in
theorem packetCut_no (p : Pk) (A : Option Addr) (n c : Nat) (B : Option Addr) (lb cb : Nat) (C : Option Addr) (lc cc : Nat) (cut : Nat) (D : Option Addr) (ld cd : Nat) (w : World) (h : PkIn w p A n c B lb cb C lc cc) (hn : n ≤ 99) (hlb : lb ≤ 3000) (hlc : lc ≤ 3000) (hld : ld ≤ 3000) (hf : fitsP p) (ht : (Lit.int .i64 p.hd.typ).wf = true) (hp : (Lit.int .i64 p.pad).wf = true) (hr : rightP p = false) :
    Calls Try.prog 5 #[pkV p A n c B lb cb C lc cc, .int .u16 cut, .slice D ld cd] w fun e w' => e = .returned (.bool true) ∧ Below w.heap.size w w' := by
  have hok := Lib.hid (fun (W : World) (h : PkIn W p A n c B lb cb C lc cc) => (⟨h, by omega, by omega, by omega, hf, ht, hp⟩ : PkOk W p A n c B lb cb C lc cc))
  have hsh : shortP p = true := by unfold shortP; rw [decide_eq_true_eq, h.us.len, h.ext.len, h.pay.len]; omega
  obtain ⟨hX, hE, _⟩ := writeP_no (room := 65535) hr
  have HX := Lib.hid hX
  have HE := Lib.hid hE
  clear hX hE hr
  unfold pkV
  have k1 := Box.new w [.bool p.hd.pad, .bool p.hd.ext, .bool p.hd.mark, .int .i64 p.hd.typ, .int .u16 p.hd.seq, .int .u32 p.hd.time, .int .u32 p.hd.ssrc, .slice A n c, .int .u16 p.prof, .slice B lb cb, .slice C lc cc, .int .i64 p.pad] 29
  have h1 := h.alloc (.cells #[.bool p.hd.pad, .bool p.hd.ext, .bool p.hd.mark, .int .i64 p.hd.typ, .int .u16 p.hd.seq, .int .u32 p.hd.time, .int .u32 p.hd.ssrc, .slice A n c, .int .u16 p.prof, .slice B lb cb, .slice C lc cc, .int .i64 p.pad] 29)
  have hB := below1 w (.cells #[.bool p.hd.pad, .bool p.hd.ext, .bool p.hd.mark, .int .i64 p.hd.typ, .int .u16 p.hd.seq, .int .u32 p.hd.time, .int .u32 p.hd.ssrc, .slice A n c, .int .u16 p.prof, .slice B lb cb, .slice C lc cc, .int .i64 p.pad] 29)
  go_enter Try.func5, Try.ntmps5
  go_wp2_with fail
  refine (awake_any KC _).mono ?_
  rintro e w2 ⟨rfl, hb⟩
  replace k1 := k1.call hb
  replace h1 := h1.below hb
  replace hB := hB.trans (hb.mono hB.size)
  clear hb
  have f1 := k1.all12.1
  go_wp2_with fail
  refine (rshort_told p A n c B lb cb C lc cc _ h1 true hsh).mono ?_
  rintro e w3 ⟨rfl, hb⟩
  replace k1 := k1.call hb
  replace h1 := h1.below hb
  replace hB := hB.trans (hb.mono hB.size)
  clear f1
  have f1 := k1.all12.1
  go_wp2_with fail
  refine (write_told KC p A n c B lb cb C lc cc 65535 _ (hok.out _ h1) (by decide) [] 0 1 HX.out rfl HE.out).mono ?_
  rintro e w4 ⟨A4, c4, rfl, hx, hb⟩
  clear f1
  go_wp2_with fail
  go_ret
  exact ⟨rfl, hB.trans (hb.mono hB.size)⟩

theorem packetCut_all (p : Pk) (A : Option Addr) (n c : Nat) (B : Option Addr) (lb cb : Nat) (C : Option Addr) (lc cc : Nat) (cut : Nat) (D : Option Addr) (ld cd : Nat) (m : List UInt8) (w : World) (h : PkIn w p A n c B lb cb C lc cc) (hs : Bs w D ld cd m) (hcut : cut < 65536) (hf : fitsP p) (ht : (Lit.int .i64 p.hd.typ).wf = true) (hp : (Lit.int .i64 p.pad).wf = true) :
    Calls Try.prog 5 #[pkV p A n c B lb cb C lc cc, .int .u16 cut, .slice D ld cd] w fun e w' => e = .returned (.bool true) ∧ Below w.heap.size w w' := by
  have l1 := h.us.len
  have l2 := h.ext.len
  have l3 := h.pay.len
  by_cases hb : shortP p = false ∨ 3000 < ld ∨ 3000 < lc ∨ 3000 < lb
  · have b1 := Nat.le_trans hs.le hs.cap
    have b2 := Nat.le_trans h.ext.le h.ext.cap
    have b3 := Nat.le_trans h.pay.le h.pay.cap
    unfold maxLen at b1 b2 b3
    exact packetCut_big KC p A n c B lb cb C lc cc cut D ld cd w h (by omega) (by omega) (by omega) hb
  · have hsh : shortP p = true := by
      cases hq : shortP p
      · exact absurd (.inl hq) hb
      · rfl
    unfold shortP at hsh
    rw [decide_eq_true_eq, l1, l2, l3] at hsh
    have hld : ld ≤ 3000 := by omega
    have hlb : lb ≤ 3000 := by omega
    have hlc : lc ≤ 3000 := by omega
    have hn := hsh.1
    cases hr : rightP p
    · exact packetCut_no KC p A n c B lb cb C lc cc cut D ld cd w h hn hlb hlc hld hf ht hp hr
    · have hx12 : 12 ≤ (packB p).length := by obtain ⟨T, hT⟩ := packB_head hr; rw [hT, List.length_append, headB_length]; omega
      have hsz : sizeP p ≤ 20000 := by
        obtain ⟨q1, q2, q3, q4, q5, q6, q7, q8⟩ := rightP_parts hr
        unfold sizeP
        rw [l1, l2, l3]
        have : (if p.hd.pad = true then p.pad else 0) ≤ 255 := by
          split
          · have := q6 (by assumption); omega
          · omega
        split <;> omega
      have hmlen := hs.len
      have hpl := (packB_length_nat hr).1
      obtain ⟨c1, c2, _⟩ := pack_cut hr hf (cut % (packB p).length) (Nat.mod_lt _ (by omega))
      have hmore := fun hm => pack_more hr hf m hm (by omega)
      rw [hmlen] at hmore
      by_cases hk : cut % (packB p).length < 12
      · have e1 := c2 hk
        rcases Nat.eq_zero_or_pos ld with hz | hz
        · exact packetCut_t_e KC p A n c B lb cb C lc cc cut D ld cd m w h hs hn hlb hlc hld hcut hf ht hp hr e1 hk hz
        · rcases hmore hz with h2 | h2
          · exact packetCut_t_q KC p A n c B lb cb C lc cc cut D ld cd m w h hs hn hlb hlc hld hcut hf ht hp hr e1 hk hz h2
          · exact packetCut_t_f KC p A n c B lb cb C lc cc cut D ld cd m w h hs hn hlb hlc hld hcut hf ht hp hr e1 hk hz h2
      · have hk2 : 12 ≤ cut % (packB p).length := by omega
        rcases c1 with e1 | e1 | e1
        · rcases Nat.eq_zero_or_pos ld with hz | hz
          · exact packetCut_z_e KC p A n c B lb cb C lc cc cut D ld cd m w h hs hn hlb hlc hld hcut hf ht hp hr e1 hk2 hz
          · rcases hmore hz with h2 | h2
            · exact packetCut_z_q KC p A n c B lb cb C lc cc cut D ld cd m w h hs hn hlb hlc hld hcut hf ht hp hr e1 hk2 hz h2
            · exact packetCut_z_f KC p A n c B lb cb C lc cc cut D ld cd m w h hs hn hlb hlc hld hcut hf ht hp hr e1 hk2 hz h2
        · rcases Nat.eq_zero_or_pos ld with hz | hz
          · exact packetCut_s_e KC p A n c B lb cb C lc cc cut D ld cd m w h hs hn hlb hlc hld hcut hf ht hp hr e1 hk2 hz
          · rcases hmore hz with h2 | h2
            · exact packetCut_s_q KC p A n c B lb cb C lc cc cut D ld cd m w h hs hn hlb hlc hld hcut hf ht hp hr e1 hk2 hz h2
            · exact packetCut_s_f KC p A n c B lb cb C lc cc cut D ld cd m w h hs hn hlb hlc hld hcut hf ht hp hr e1 hk2 hz h2
        · rcases Nat.eq_zero_or_pos ld with hz | hz
          · exact packetCut_p_e KC p A n c B lb cb C lc cc cut D ld cd m w h hs hn hlb hlc hld hcut hf ht hp hr e1 hk2 hz
          · rcases hmore hz with h2 | h2
            · exact packetCut_p_q KC p A n c B lb cb C lc cc cut D ld cd m w h hs hn hlb hlc hld hcut hf ht hp hr e1 hk2 hz h2
            · exact packetCut_p_f KC p A n c B lb cb C lc cc cut D ld cd m w h hs hn hlb hlc hld hcut hf ht hp hr e1 hk2 hz h2
end

end Go.Proofs.Ytbalpndgpdbcbaa

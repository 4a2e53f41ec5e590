/-
  PacketRight, walked under the contracts of package packet's calls. (Written by gen_PackRightW.py.)
-/
import Derived.Test.YtbalpndgpdbcbaaPackL
namespace Go.Proofs.Ytbalpndgpdbcbaa
open Go.RowKit
set_option linter.unusedVariables false
set_option linter.unusedSimpArgs false

theorem rshort_told (p : Pk) (A : Option Addr) (n c : Nat) (B : Option Addr) (lb cb : Nat) (C : Option Addr) (lc cc : Nat) (w : World) (h : PkIn w p A n c B lb cb C lc cc) (b : Bool) (hb : shortP p = b) :
    Calls Try.prog 7 #[pkV p A n c B lb cb C lc cc] w (Says w (.bool b)) := by
  subst hb
  exact rshort_any p A n c B lb cb C lc cc w h
theorem rright_told (p : Pk) (A : Option Addr) (n c : Nat) (B : Option Addr) (lb cb : Nat) (C : Option Addr) (lc cc : Nat) (w : World) (h : PkIn w p A n c B lb cb C lc cc) (hn : n ≤ 99) (b : Bool) (hb : rightP p = b) :
    Calls Try.prog 8 #[pkV p A n c B lb cb C lc cc] w (Says w (.bool b)) := by
  subst hb
  exact rright_any p A n c B lb cb C lc cc w h hn
theorem rcanon_told (A : Option Addr) (l c : Nat) (s : List UInt8) (w : World) (hs : Bs w A l c s) (hl : l ≤ 140737488355328) (b : Bool) (hb : canonP s = b) :
    Calls Try.prog 18 #[.slice A l c] w (Says w (.bool b)) := by
  subst hb
  exact rcanon_any A l c s w hs hl
section
variable (KC : PackCalls)
include KC
set_option maxRecDepth 100000 in
set_option maxHeartbeats 1000000 in
theorem packetRight_big (p : Pk) (A : Option Addr) (n c : Nat) (B : Option Addr) (lb cb : Nat) (C : Option Addr) (lc cc : Nat) (room : Int) (D : Option Addr) (ld cd : Nat) (w : World) (h : PkIn w p A n c B lb cb C lc cc) (hd : ld ≤ 9223372036854775807) (hb : shortP p = false ∨ 70000 < ld) :
    Calls Try.prog 3 #[pkV p A n c B lb cb C lc cc, .int .i64 room, .slice D ld cd] w fun e w' => e = .returned (.bool true) ∧ Below w.heap.size w w' := by
  obtain ⟨b, hsb⟩ : ∃ b, shortP p = b := ⟨_, rfl⟩
  rw [hsb] at hb
  have Hb := Lib.hid hb
  clear hb
  unfold pkV
  have k1 := Box.new w [.bool p.hd.pad, .bool p.hd.ext, .bool p.hd.mark, .int .i64 p.hd.typ, .int .u16 p.hd.seq, .int .u32 p.hd.time, .int .u32 p.hd.ssrc, .slice A n c, .int .u16 p.prof, .slice B lb cb, .slice C lc cc, .int .i64 p.pad] 29
  have h1 := h.alloc (.cells #[.bool p.hd.pad, .bool p.hd.ext, .bool p.hd.mark, .int .i64 p.hd.typ, .int .u16 p.hd.seq, .int .u32 p.hd.time, .int .u32 p.hd.ssrc, .slice A n c, .int .u16 p.prof, .slice B lb cb, .slice C lc cc, .int .i64 p.pad] 29)
  have hB := below1 w (.cells #[.bool p.hd.pad, .bool p.hd.ext, .bool p.hd.mark, .int .i64 p.hd.typ, .int .u16 p.hd.seq, .int .u32 p.hd.time, .int .u32 p.hd.ssrc, .slice A n c, .int .u16 p.prof, .slice B lb cb, .slice C lc cc, .int .i64 p.pad] 29)
  go_enter Try.func3, Try.ntmps3
  go_wp2_with fail
  refine (awake_any KC _).mono ?_
  rintro e w2 ⟨rfl, hb⟩
  replace k1 := k1.call hb
  replace h1 := h1.below hb
  replace hB := hB.trans (hb.mono hB.size)
  clear hb
  have f1 := k1.all12.1
  go_wp2_with fail
  refine (rshort_told p A n c B lb cb C lc cc _ h1 b hsb).mono ?_
  rintro e w3 ⟨rfl, hb⟩
  replace hB := hB.trans (hb.mono hB.size)
  clear f1
  cases b with
  | false =>
    go_wp2_with fail
    go_ret
    exact ⟨rfl, hB⟩
  | true =>
    have h7 : 70000 < ld := by rcases Hb.out with h | h <;> first | omega | cases h
    go_wp2_with fail
    go_ret
    exact ⟨rfl, hB⟩

set_option maxRecDepth 100000 in
set_option maxHeartbeats 4000000 in
theorem packetRight_no (p : Pk) (A : Option Addr) (n c : Nat) (B : Option Addr) (lb cb : Nat) (C : Option Addr) (lc cc : Nat) (room : Int) (D : Option Addr) (ld cd : Nat) (s : List UInt8) (w : World) (h : PkIn w p A n c B lb cb C lc cc) (hs : Bs w D ld cd s) (hn : n ≤ 99) (hlb : lb ≤ 300000) (hlc : lc ≤ 70000) (hld : ld ≤ 70000) (hf : fitsP p) (ht : (Lit.int .i64 p.hd.typ).wf = true) (hp : (Lit.int .i64 p.pad).wf = true) (hroom : (Lit.int .i64 room).wf = true) (hr : rightP p = false) :
    Calls Try.prog 3 #[pkV p A n c B lb cb C lc cc, .int .i64 room, .slice D ld cd] w fun e w' => e = .returned (.bool true) ∧ Below w.heap.size w w' := by
  have hok := Lib.hid (fun (W : World) (h : PkIn W p A n c B lb cb C lc cc) => (⟨h, by omega, by omega, by omega, hf, ht, hp⟩ : PkOk W p A n c B lb cb C lc cc))
  obtain ⟨hX, hE, hZ⟩ := writeP_no (room := room) hr
  have hsh : shortP p = true := by unfold shortP; rw [decide_eq_true_eq, h.us.len, h.ext.len, h.pay.len]; omega
  have hsz := Lib.hid hZ
  have hXX := Lib.hid hX
  have hEE := Lib.hid hE
  have hpr := Lib.hid hr
  clear hX hE hZ hr
  obtain ⟨r, hrr⟩ : ∃ r, readP s = r := ⟨_, rfl⟩
  obtain ⟨er, her⟩ : ∃ er, pErr s = er := ⟨_, rfl⟩
  obtain ⟨cn, hcn⟩ : ∃ cn, canonP s = cn := ⟨_, rfl⟩
  unfold pkV
  have k1 := Box.new w [.bool p.hd.pad, .bool p.hd.ext, .bool p.hd.mark, .int .i64 p.hd.typ, .int .u16 p.hd.seq, .int .u32 p.hd.time, .int .u32 p.hd.ssrc, .slice A n c, .int .u16 p.prof, .slice B lb cb, .slice C lc cc, .int .i64 p.pad] 29
  have h1 := h.alloc (.cells #[.bool p.hd.pad, .bool p.hd.ext, .bool p.hd.mark, .int .i64 p.hd.typ, .int .u16 p.hd.seq, .int .u32 p.hd.time, .int .u32 p.hd.ssrc, .slice A n c, .int .u16 p.prof, .slice B lb cb, .slice C lc cc, .int .i64 p.pad] 29)
  have hs1 := hs.alloc (.cells #[.bool p.hd.pad, .bool p.hd.ext, .bool p.hd.mark, .int .i64 p.hd.typ, .int .u16 p.hd.seq, .int .u32 p.hd.time, .int .u32 p.hd.ssrc, .slice A n c, .int .u16 p.prof, .slice B lb cb, .slice C lc cc, .int .i64 p.pad] 29)
  have hB := below1 w (.cells #[.bool p.hd.pad, .bool p.hd.ext, .bool p.hd.mark, .int .i64 p.hd.typ, .int .u16 p.hd.seq, .int .u32 p.hd.time, .int .u32 p.hd.ssrc, .slice A n c, .int .u16 p.prof, .slice B lb cb, .slice C lc cc, .int .i64 p.pad] 29)
  go_enter Try.func3, Try.ntmps3
  go_wp2_with fail
  refine (awake_any KC _).mono ?_
  rintro e w2 ⟨rfl, hb⟩
  replace h1 := h1.below hb
  replace hs1 := hs1.below hb
  replace k1 := k1.call hb
  replace hB := hB.trans (hb.mono hB.size)
  clear hb
  have fk1 := k1.all12.1
  go_wp2_with fail
  refine (rshort_told p A n c B lb cb C lc cc _ h1 true hsh).mono ?_
  rintro e w3 ⟨rfl, hb⟩
  clear fk1
  replace h1 := h1.below hb
  replace hs1 := hs1.below hb
  replace k1 := k1.call hb
  replace hB := hB.trans (hb.mono hB.size)
  clear hb
  have fk1 := k1.all12.1
  go_wp2_with fail
  refine (rright_told p A n c B lb cb C lc cc _ h1 hn false hpr.out).mono ?_
  rintro e w4 ⟨rfl, hb⟩
  clear fk1
  replace h1 := h1.below hb
  replace hs1 := hs1.below hb
  replace k1 := k1.call hb
  replace hB := hB.trans (hb.mono hB.size)
  clear hb
  have fk1 := k1.all12.1
  go_wp2_with fail
  refine (write_told KC p A n c B lb cb C lc cc room _ (hok.out _ h1) hroom [] 0 1 hXX.out rfl hEE.out).mono ?_
  rintro e w6 ⟨A6, c6, rfl, hx, hb⟩
  clear fk1
  replace h1 := h1.below hb
  replace hs1 := hs1.below hb
  replace k1 := k1.call hb
  replace hB := hB.trans (hb.mono hB.size)
  clear hb
  have fk1 := k1.all12.1
  go_wp2_with fail
  refine (size_told KC p A n c B lb cb C lc cc _ (hok.out _ h1) 0 hsz.out).mono ?_
  rintro e w7 ⟨rfl, hb⟩
  clear fk1
  replace h1 := h1.below hb
  replace hs1 := hs1.below hb
  replace k1 := k1.call hb
  replace hx := hx.below hb
  replace hB := hB.trans (hb.mono hB.size)
  clear hb
  have fk1 := k1.all12.1
  go_wp2_with fail
  refine (KC.read D ld cd s _ hs1 (by omega)).mono ?_
  rintro e w8 ⟨A8, a8, B8, b8, C8, c8, rfl, hq, hb⟩
  rw [hrr] at hq ⊢
  rw [her]
  clear fk1
  replace h1 := h1.below hb
  replace hs1 := hs1.below hb
  replace k1 := k1.call hb
  replace hx := hx.below hb
  replace hB := hB.trans (hb.mono hB.size)
  clear hb
  have k8 := Box.new w8 [.bool r.hd.pad, .bool r.hd.ext, .bool r.hd.mark, .int .i64 r.hd.typ, .int .u16 r.hd.seq, .int .u32 r.hd.time, .int .u32 r.hd.ssrc, .slice A8 r.hd.csrc.length a8, .int .u16 r.prof, .slice B8 r.ext.length b8, .slice C8 r.pay.length c8, .int .i64 r.pad] 29
  dsimp only [pkV]
  replace h1 := h1.alloc (.cells #[.bool r.hd.pad, .bool r.hd.ext, .bool r.hd.mark, .int .i64 r.hd.typ, .int .u16 r.hd.seq, .int .u32 r.hd.time, .int .u32 r.hd.ssrc, .slice A8 r.hd.csrc.length a8, .int .u16 r.prof, .slice B8 r.ext.length b8, .slice C8 r.pay.length c8, .int .i64 r.pad] 29)
  replace hs1 := hs1.alloc (.cells #[.bool r.hd.pad, .bool r.hd.ext, .bool r.hd.mark, .int .i64 r.hd.typ, .int .u16 r.hd.seq, .int .u32 r.hd.time, .int .u32 r.hd.ssrc, .slice A8 r.hd.csrc.length a8, .int .u16 r.prof, .slice B8 r.ext.length b8, .slice C8 r.pay.length c8, .int .i64 r.pad] 29)
  replace k1 := k1.alloc (.cells #[.bool r.hd.pad, .bool r.hd.ext, .bool r.hd.mark, .int .i64 r.hd.typ, .int .u16 r.hd.seq, .int .u32 r.hd.time, .int .u32 r.hd.ssrc, .slice A8 r.hd.csrc.length a8, .int .u16 r.prof, .slice B8 r.ext.length b8, .slice C8 r.pay.length c8, .int .i64 r.pad] 29)
  replace hx := hx.alloc (.cells #[.bool r.hd.pad, .bool r.hd.ext, .bool r.hd.mark, .int .i64 r.hd.typ, .int .u16 r.hd.seq, .int .u32 r.hd.time, .int .u32 r.hd.ssrc, .slice A8 r.hd.csrc.length a8, .int .u16 r.prof, .slice B8 r.ext.length b8, .slice C8 r.pay.length c8, .int .i64 r.pad] 29)
  replace hq := hq.alloc (.cells #[.bool r.hd.pad, .bool r.hd.ext, .bool r.hd.mark, .int .i64 r.hd.typ, .int .u16 r.hd.seq, .int .u32 r.hd.time, .int .u32 r.hd.ssrc, .slice A8 r.hd.csrc.length a8, .int .u16 r.prof, .slice B8 r.ext.length b8, .slice C8 r.pay.length c8, .int .i64 r.pad] 29)
  replace hB := hB.alloc hB.size (.cells #[.bool r.hd.pad, .bool r.hd.ext, .bool r.hd.mark, .int .i64 r.hd.typ, .int .u16 r.hd.seq, .int .u32 r.hd.time, .int .u32 r.hd.ssrc, .slice A8 r.hd.csrc.length a8, .int .u16 r.prof, .slice B8 r.ext.length b8, .slice C8 r.pay.length c8, .int .i64 r.pad] 29)
  have fk1 := k1.all12.1
  have fk8 := k8.all12.1
  go_wp2_with fail
  refine (rpread_any D ld cd s _ hs1 (by omega)).mono ?_
  rintro e w9 ⟨A9, a9, B9, b9, C9, c9, rfl, hz, hb⟩
  rw [hrr] at hz ⊢
  rw [her]
  clear fk1
  clear fk8
  replace h1 := h1.below hb
  replace hs1 := hs1.below hb
  replace k1 := k1.call hb
  replace hx := hx.below hb
  replace hq := hq.below hb
  replace k8 := k8.call hb
  replace hB := hB.trans (hb.mono hB.size)
  clear hb
  have k9 := Box.new w9 [.bool r.hd.pad, .bool r.hd.ext, .bool r.hd.mark, .int .i64 r.hd.typ, .int .u16 r.hd.seq, .int .u32 r.hd.time, .int .u32 r.hd.ssrc, .slice A9 r.hd.csrc.length a9, .int .u16 r.prof, .slice B9 r.ext.length b9, .slice C9 r.pay.length c9, .int .i64 r.pad] 29
  dsimp only [pkV]
  replace h1 := h1.alloc (.cells #[.bool r.hd.pad, .bool r.hd.ext, .bool r.hd.mark, .int .i64 r.hd.typ, .int .u16 r.hd.seq, .int .u32 r.hd.time, .int .u32 r.hd.ssrc, .slice A9 r.hd.csrc.length a9, .int .u16 r.prof, .slice B9 r.ext.length b9, .slice C9 r.pay.length c9, .int .i64 r.pad] 29)
  replace hs1 := hs1.alloc (.cells #[.bool r.hd.pad, .bool r.hd.ext, .bool r.hd.mark, .int .i64 r.hd.typ, .int .u16 r.hd.seq, .int .u32 r.hd.time, .int .u32 r.hd.ssrc, .slice A9 r.hd.csrc.length a9, .int .u16 r.prof, .slice B9 r.ext.length b9, .slice C9 r.pay.length c9, .int .i64 r.pad] 29)
  replace k1 := k1.alloc (.cells #[.bool r.hd.pad, .bool r.hd.ext, .bool r.hd.mark, .int .i64 r.hd.typ, .int .u16 r.hd.seq, .int .u32 r.hd.time, .int .u32 r.hd.ssrc, .slice A9 r.hd.csrc.length a9, .int .u16 r.prof, .slice B9 r.ext.length b9, .slice C9 r.pay.length c9, .int .i64 r.pad] 29)
  replace hx := hx.alloc (.cells #[.bool r.hd.pad, .bool r.hd.ext, .bool r.hd.mark, .int .i64 r.hd.typ, .int .u16 r.hd.seq, .int .u32 r.hd.time, .int .u32 r.hd.ssrc, .slice A9 r.hd.csrc.length a9, .int .u16 r.prof, .slice B9 r.ext.length b9, .slice C9 r.pay.length c9, .int .i64 r.pad] 29)
  replace hq := hq.alloc (.cells #[.bool r.hd.pad, .bool r.hd.ext, .bool r.hd.mark, .int .i64 r.hd.typ, .int .u16 r.hd.seq, .int .u32 r.hd.time, .int .u32 r.hd.ssrc, .slice A9 r.hd.csrc.length a9, .int .u16 r.prof, .slice B9 r.ext.length b9, .slice C9 r.pay.length c9, .int .i64 r.pad] 29)
  replace k8 := k8.alloc (.cells #[.bool r.hd.pad, .bool r.hd.ext, .bool r.hd.mark, .int .i64 r.hd.typ, .int .u16 r.hd.seq, .int .u32 r.hd.time, .int .u32 r.hd.ssrc, .slice A9 r.hd.csrc.length a9, .int .u16 r.prof, .slice B9 r.ext.length b9, .slice C9 r.pay.length c9, .int .i64 r.pad] 29)
  replace hz := hz.alloc (.cells #[.bool r.hd.pad, .bool r.hd.ext, .bool r.hd.mark, .int .i64 r.hd.typ, .int .u16 r.hd.seq, .int .u32 r.hd.time, .int .u32 r.hd.ssrc, .slice A9 r.hd.csrc.length a9, .int .u16 r.prof, .slice B9 r.ext.length b9, .slice C9 r.pay.length c9, .int .i64 r.pad] 29)
  replace hB := hB.alloc hB.size (.cells #[.bool r.hd.pad, .bool r.hd.ext, .bool r.hd.mark, .int .i64 r.hd.typ, .int .u16 r.hd.seq, .int .u32 r.hd.time, .int .u32 r.hd.ssrc, .slice A9 r.hd.csrc.length a9, .int .u16 r.prof, .slice B9 r.ext.length b9, .slice C9 r.pay.length c9, .int .i64 r.pad] 29)
  have fk1 := k1.all12.1
  have fk8 := k8.all12.1
  have fk9 := k9.all12.1
  go_wp2_with fail
  refine (right_told KC p A n c B lb cb C lc cc _ (hok.out _ h1) false hpr.out).mono ?_
  rintro e w10 ⟨rfl, hb⟩
  clear fk1
  clear fk8
  clear fk9
  replace h1 := h1.below hb
  replace hs1 := hs1.below hb
  replace k1 := k1.call hb
  replace hx := hx.below hb
  replace hq := hq.below hb
  replace k8 := k8.call hb
  replace hz := hz.below hb
  replace k9 := k9.call hb
  replace hB := hB.trans (hb.mono hB.size)
  clear hb
  have fk1 := k1.all12.1
  have fk8 := k8.all12.1
  have fk9 := k9.all12.1
  go_wp2_with fail
  refine (rsameP_told r A8 r.hd.csrc.length a8 B8 r.ext.length b8 C8 r.pay.length c8 r A9 r.hd.csrc.length a9 B9 r.ext.length b9 C9 r.pay.length c9 _ hq hz true (decide_eq_true rfl)).mono ?_
  rintro e w11 ⟨rfl, hb⟩
  clear fk1
  clear fk8
  clear fk9
  replace h1 := h1.below hb
  replace hs1 := hs1.below hb
  replace k1 := k1.call hb
  replace hx := hx.below hb
  replace hq := hq.below hb
  replace k8 := k8.call hb
  replace hz := hz.below hb
  replace k9 := k9.call hb
  replace hB := hB.trans (hb.mono hB.size)
  clear hb
  have fk1 := k1.all12.1
  have fk8 := k8.all12.1
  have fk9 := k9.all12.1
  go_wp2_with fail
  refine (canon_told KC D ld cd s _ hs1 (by omega) cn hcn).mono ?_
  rintro e w12 ⟨rfl, hb⟩
  clear fk1
  clear fk8
  clear fk9
  replace h1 := h1.below hb
  replace hs1 := hs1.below hb
  replace k1 := k1.call hb
  replace hx := hx.below hb
  replace hq := hq.below hb
  replace k8 := k8.call hb
  replace hz := hz.below hb
  replace k9 := k9.call hb
  replace hB := hB.trans (hb.mono hB.size)
  clear hb
  have fk1 := k1.all12.1
  have fk8 := k8.all12.1
  have fk9 := k9.all12.1
  go_wp2_with fail
  refine (rcanon_told D ld cd s _ hs1 (by omega) cn hcn).mono ?_
  rintro e w13 ⟨rfl, hb⟩
  clear fk1
  clear fk8
  clear fk9
  replace h1 := h1.below hb
  replace hs1 := hs1.below hb
  replace k1 := k1.call hb
  replace hx := hx.below hb
  replace hq := hq.below hb
  replace k8 := k8.call hb
  replace hz := hz.below hb
  replace k9 := k9.call hb
  replace hB := hB.trans (hb.mono hB.size)
  clear hb
  have fk1 := k1.all12.1
  have fk8 := k8.all12.1
  have fk9 := k9.all12.1
  go_wp2_with fail
  go_ret
  refine ⟨?_, hB⟩
  first | rfl | (simp; done)

set_option maxRecDepth 100000 in
set_option maxHeartbeats 4000000 in
theorem packetRight_room (p : Pk) (A : Option Addr) (n c : Nat) (B : Option Addr) (lb cb : Nat) (C : Option Addr) (lc cc : Nat) (room : Int) (D : Option Addr) (ld cd : Nat) (s : List UInt8) (w : World) (h : PkIn w p A n c B lb cb C lc cc) (hs : Bs w D ld cd s) (hn : n ≤ 99) (hlb : lb ≤ 300000) (hlc : lc ≤ 70000) (hld : ld ≤ 70000) (hf : fitsP p) (ht : (Lit.int .i64 p.hd.typ).wf = true) (hp : (Lit.int .i64 p.pad).wf = true) (hroom : (Lit.int .i64 room).wf = true) (hr : rightP p = true) (hm : room < sizeP p) :
    Calls Try.prog 3 #[pkV p A n c B lb cb C lc cc, .int .i64 room, .slice D ld cd] w fun e w' => e = .returned (.bool true) ∧ Below w.heap.size w w' := by
  have hok := Lib.hid (fun (W : World) (h : PkIn W p A n c B lb cb C lc cc) => (⟨h, by omega, by omega, by omega, hf, ht, hp⟩ : PkOk W p A n c B lb cb C lc cc))
  obtain ⟨hX, hE, hZ⟩ := writeP_room hr hm
  have hsh : shortP p = true := by unfold shortP; rw [decide_eq_true_eq, h.us.len, h.ext.len, h.pay.len]; omega
  have hpad : 0 ≤ p.pad ∧ p.pad ≤ 255 := by
    obtain ⟨_, _, _, _, _, q6, q7, _⟩ := rightP_parts hr
    cases hq : p.hd.pad
    · rw [q7 hq]; omega
    · have := q6 hq; omega
  have RZ : Hid (∀ W : World, Calls Try.prog 11 #[pkV p A n c B lb cb C lc cc] W (Says W (.int .i64 (sizeP p)))) := Lib.hid (fun W => by rw [h.size]; exact rsize_any _ _ _ _ _ _ _ A n c _ B lb cb C lc cc _ W hn (by omega) hpad)
  have hsz := Lib.hid hZ
  have hXX := Lib.hid hX
  have hEE := Lib.hid hE
  have hpr := Lib.hid hr
  clear hX hE hZ hr
  have hzb : sizeP p ≤ 65535 := (rightP_parts hpr.out).2.2.2.2.2.2.2
  have hrq := Lib.hid (rfl : sizeP p = sizeP p)
  generalize hzz : sizeP p = z at *
  clear hzz
  obtain ⟨r, hrr⟩ : ∃ r, readP s = r := ⟨_, rfl⟩
  obtain ⟨er, her⟩ : ∃ er, pErr s = er := ⟨_, rfl⟩
  obtain ⟨cn, hcn⟩ : ∃ cn, canonP s = cn := ⟨_, rfl⟩
  unfold pkV
  have k1 := Box.new w [.bool p.hd.pad, .bool p.hd.ext, .bool p.hd.mark, .int .i64 p.hd.typ, .int .u16 p.hd.seq, .int .u32 p.hd.time, .int .u32 p.hd.ssrc, .slice A n c, .int .u16 p.prof, .slice B lb cb, .slice C lc cc, .int .i64 p.pad] 29
  have h1 := h.alloc (.cells #[.bool p.hd.pad, .bool p.hd.ext, .bool p.hd.mark, .int .i64 p.hd.typ, .int .u16 p.hd.seq, .int .u32 p.hd.time, .int .u32 p.hd.ssrc, .slice A n c, .int .u16 p.prof, .slice B lb cb, .slice C lc cc, .int .i64 p.pad] 29)
  have hs1 := hs.alloc (.cells #[.bool p.hd.pad, .bool p.hd.ext, .bool p.hd.mark, .int .i64 p.hd.typ, .int .u16 p.hd.seq, .int .u32 p.hd.time, .int .u32 p.hd.ssrc, .slice A n c, .int .u16 p.prof, .slice B lb cb, .slice C lc cc, .int .i64 p.pad] 29)
  have hB := below1 w (.cells #[.bool p.hd.pad, .bool p.hd.ext, .bool p.hd.mark, .int .i64 p.hd.typ, .int .u16 p.hd.seq, .int .u32 p.hd.time, .int .u32 p.hd.ssrc, .slice A n c, .int .u16 p.prof, .slice B lb cb, .slice C lc cc, .int .i64 p.pad] 29)
  go_enter Try.func3, Try.ntmps3
  go_wp2_with fail
  refine (awake_any KC _).mono ?_
  rintro e w2 ⟨rfl, hb⟩
  replace h1 := h1.below hb
  replace hs1 := hs1.below hb
  replace k1 := k1.call hb
  replace hB := hB.trans (hb.mono hB.size)
  clear hb
  have fk1 := k1.all12.1
  go_wp2_with fail
  refine (rshort_told p A n c B lb cb C lc cc _ h1 true hsh).mono ?_
  rintro e w3 ⟨rfl, hb⟩
  clear fk1
  replace h1 := h1.below hb
  replace hs1 := hs1.below hb
  replace k1 := k1.call hb
  replace hB := hB.trans (hb.mono hB.size)
  clear hb
  have fk1 := k1.all12.1
  go_wp2_with fail
  refine (rright_told p A n c B lb cb C lc cc _ h1 hn true hpr.out).mono ?_
  rintro e w4 ⟨rfl, hb⟩
  clear fk1
  replace h1 := h1.below hb
  replace hs1 := hs1.below hb
  replace k1 := k1.call hb
  replace hB := hB.trans (hb.mono hB.size)
  clear hb
  have fk1 := k1.all12.1
  go_wp2_with fail
  refine (write_told KC p A n c B lb cb C lc cc room _ (hok.out _ h1) hroom [] 0 7 hXX.out rfl hEE.out).mono ?_
  rintro e w6 ⟨A6, c6, rfl, hx, hb⟩
  clear fk1
  replace h1 := h1.below hb
  replace hs1 := hs1.below hb
  replace k1 := k1.call hb
  replace hB := hB.trans (hb.mono hB.size)
  clear hb
  have fk1 := k1.all12.1
  go_wp2_with fail
  refine (RZ.out _).mono ?_
  rintro e w7 ⟨rfl, hb⟩
  clear fk1
  replace h1 := h1.below hb
  replace hs1 := hs1.below hb
  replace k1 := k1.call hb
  replace hx := hx.below hb
  replace hB := hB.trans (hb.mono hB.size)
  clear hb
  have fk1 := k1.all12.1
  go_upto_region 13 with fail
  go_cut [82] (fun q W => q = .bool false ∧ Below w7.heap.size w7 W)
  case first =>
    go_region_held3 (fun W => W.cell? ⟨w.heap.size, 0, none⟩ = some (.bool p.hd.pad) ∧ W.cell? ⟨w.heap.size, 1, none⟩ = some (.bool p.hd.ext) ∧ W.cell? ⟨w.heap.size, 2, none⟩ = some (.bool p.hd.mark) ∧ W.cell? ⟨w.heap.size, 3, none⟩ = some (.int .i64 p.hd.typ) ∧ W.cell? ⟨w.heap.size, 4, none⟩ = some (.int .u16 p.hd.seq) ∧ W.cell? ⟨w.heap.size, 5, none⟩ = some (.int .u32 p.hd.time) ∧ W.cell? ⟨w.heap.size, 6, none⟩ = some (.int .u32 p.hd.ssrc) ∧ W.cell? ⟨w.heap.size, 7, none⟩ = some (.slice A n c) ∧ W.cell? ⟨w.heap.size, 8, none⟩ = some (.int .u16 p.prof) ∧ W.cell? ⟨w.heap.size, 9, none⟩ = some (.slice B lb cb) ∧ W.cell? ⟨w.heap.size, 10, none⟩ = some (.slice C lc cc) ∧ W.cell? ⟨w.heap.size, 11, none⟩ = some (.int .i64 p.pad))
      (go_keep)
      (first | (go_at_call 10; refine (size_told KC p A n c B lb cb C lc cc _ (hok.out _ (by first | exact h1.drew | exact PkIn.below (w := w7.drew) h1.drew hbR)) z hsz.out).mono ?_; rintro e wP ⟨rfl, hbP⟩; have zP : Box wP w.heap.size [.bool p.hd.pad, .bool p.hd.ext, .bool p.hd.mark, .int .i64 p.hd.typ, .int .u16 p.hd.seq, .int .u32 p.hd.time, .int .u32 p.hd.ssrc, .slice A n c, .int .u16 p.prof, .slice B lb cb, .slice C lc cc, .int .i64 p.pad] := (by first | exact Box.call (w := w7.drew) k1 hbP | exact (Box.call (w := w7.drew) k1 hbR).call hbP); have yP := zP.all12.1) | (go_at_call 11; refine (RZ.out _).mono ?_; rintro e wR ⟨rfl, hbR⟩; have zR : Box wR w.heap.size [.bool p.hd.pad, .bool p.hd.ext, .bool p.hd.mark, .int .i64 p.hd.typ, .int .u16 p.hd.seq, .int .u32 p.hd.time, .int .u32 p.hd.ssrc, .slice A n c, .int .u16 p.prof, .slice B lb cb, .slice C lc cc, .int .i64 p.pad] := (by first | exact Box.call (w := w7.drew) k1 hbR | exact (Box.call (w := w7.drew) k1 hbP).call hbR); have yR := zR.all12.1))
    all_goals
      go_wp2_with fail
      go_meet
      first
        | exact ⟨rfl, (Below.refl _ w7).drew.trans (hbP.trans (hbR.mono hbP.size))⟩
        | exact ⟨rfl, (Below.refl _ w7).drew.trans (hbR.trans (hbP.mono hbR.size))⟩
  case rest =>
    obtain ⟨rfl, hb⟩ := hcut
    clear fk1
    replace h1 := h1.below hb
    replace hs1 := hs1.below hb
    replace k1 := k1.call hb
    replace hx := hx.below hb
    replace hB := hB.trans (hb.mono hB.size)
    clear hb
    have fk1 := k1.all12.1
    go_wp2_with fail
    refine (KC.read D ld cd s _ hs1 (by omega)).mono ?_
    rintro e w8 ⟨A8, a8, B8, b8, C8, c8, rfl, hq, hb⟩
    rw [hrr] at hq ⊢
    rw [her]
    clear fk1
    replace h1 := h1.below hb
    replace hs1 := hs1.below hb
    replace k1 := k1.call hb
    replace hx := hx.below hb
    replace hB := hB.trans (hb.mono hB.size)
    clear hb
    have k8 := Box.new w8 [.bool r.hd.pad, .bool r.hd.ext, .bool r.hd.mark, .int .i64 r.hd.typ, .int .u16 r.hd.seq, .int .u32 r.hd.time, .int .u32 r.hd.ssrc, .slice A8 r.hd.csrc.length a8, .int .u16 r.prof, .slice B8 r.ext.length b8, .slice C8 r.pay.length c8, .int .i64 r.pad] 29
    dsimp only [pkV]
    replace h1 := h1.alloc (.cells #[.bool r.hd.pad, .bool r.hd.ext, .bool r.hd.mark, .int .i64 r.hd.typ, .int .u16 r.hd.seq, .int .u32 r.hd.time, .int .u32 r.hd.ssrc, .slice A8 r.hd.csrc.length a8, .int .u16 r.prof, .slice B8 r.ext.length b8, .slice C8 r.pay.length c8, .int .i64 r.pad] 29)
    replace hs1 := hs1.alloc (.cells #[.bool r.hd.pad, .bool r.hd.ext, .bool r.hd.mark, .int .i64 r.hd.typ, .int .u16 r.hd.seq, .int .u32 r.hd.time, .int .u32 r.hd.ssrc, .slice A8 r.hd.csrc.length a8, .int .u16 r.prof, .slice B8 r.ext.length b8, .slice C8 r.pay.length c8, .int .i64 r.pad] 29)
    replace k1 := k1.alloc (.cells #[.bool r.hd.pad, .bool r.hd.ext, .bool r.hd.mark, .int .i64 r.hd.typ, .int .u16 r.hd.seq, .int .u32 r.hd.time, .int .u32 r.hd.ssrc, .slice A8 r.hd.csrc.length a8, .int .u16 r.prof, .slice B8 r.ext.length b8, .slice C8 r.pay.length c8, .int .i64 r.pad] 29)
    replace hx := hx.alloc (.cells #[.bool r.hd.pad, .bool r.hd.ext, .bool r.hd.mark, .int .i64 r.hd.typ, .int .u16 r.hd.seq, .int .u32 r.hd.time, .int .u32 r.hd.ssrc, .slice A8 r.hd.csrc.length a8, .int .u16 r.prof, .slice B8 r.ext.length b8, .slice C8 r.pay.length c8, .int .i64 r.pad] 29)
    replace hq := hq.alloc (.cells #[.bool r.hd.pad, .bool r.hd.ext, .bool r.hd.mark, .int .i64 r.hd.typ, .int .u16 r.hd.seq, .int .u32 r.hd.time, .int .u32 r.hd.ssrc, .slice A8 r.hd.csrc.length a8, .int .u16 r.prof, .slice B8 r.ext.length b8, .slice C8 r.pay.length c8, .int .i64 r.pad] 29)
    replace hB := hB.alloc hB.size (.cells #[.bool r.hd.pad, .bool r.hd.ext, .bool r.hd.mark, .int .i64 r.hd.typ, .int .u16 r.hd.seq, .int .u32 r.hd.time, .int .u32 r.hd.ssrc, .slice A8 r.hd.csrc.length a8, .int .u16 r.prof, .slice B8 r.ext.length b8, .slice C8 r.pay.length c8, .int .i64 r.pad] 29)
    have fk1 := k1.all12.1
    have fk8 := k8.all12.1
    go_wp2_with fail
    refine (rpread_any D ld cd s _ hs1 (by omega)).mono ?_
    rintro e w9 ⟨A9, a9, B9, b9, C9, c9, rfl, hz, hb⟩
    rw [hrr] at hz ⊢
    rw [her]
    clear fk1
    clear fk8
    replace h1 := h1.below hb
    replace hs1 := hs1.below hb
    replace k1 := k1.call hb
    replace hx := hx.below hb
    replace hq := hq.below hb
    replace k8 := k8.call hb
    replace hB := hB.trans (hb.mono hB.size)
    clear hb
    have k9 := Box.new w9 [.bool r.hd.pad, .bool r.hd.ext, .bool r.hd.mark, .int .i64 r.hd.typ, .int .u16 r.hd.seq, .int .u32 r.hd.time, .int .u32 r.hd.ssrc, .slice A9 r.hd.csrc.length a9, .int .u16 r.prof, .slice B9 r.ext.length b9, .slice C9 r.pay.length c9, .int .i64 r.pad] 29
    dsimp only [pkV]
    replace h1 := h1.alloc (.cells #[.bool r.hd.pad, .bool r.hd.ext, .bool r.hd.mark, .int .i64 r.hd.typ, .int .u16 r.hd.seq, .int .u32 r.hd.time, .int .u32 r.hd.ssrc, .slice A9 r.hd.csrc.length a9, .int .u16 r.prof, .slice B9 r.ext.length b9, .slice C9 r.pay.length c9, .int .i64 r.pad] 29)
    replace hs1 := hs1.alloc (.cells #[.bool r.hd.pad, .bool r.hd.ext, .bool r.hd.mark, .int .i64 r.hd.typ, .int .u16 r.hd.seq, .int .u32 r.hd.time, .int .u32 r.hd.ssrc, .slice A9 r.hd.csrc.length a9, .int .u16 r.prof, .slice B9 r.ext.length b9, .slice C9 r.pay.length c9, .int .i64 r.pad] 29)
    replace k1 := k1.alloc (.cells #[.bool r.hd.pad, .bool r.hd.ext, .bool r.hd.mark, .int .i64 r.hd.typ, .int .u16 r.hd.seq, .int .u32 r.hd.time, .int .u32 r.hd.ssrc, .slice A9 r.hd.csrc.length a9, .int .u16 r.prof, .slice B9 r.ext.length b9, .slice C9 r.pay.length c9, .int .i64 r.pad] 29)
    replace hx := hx.alloc (.cells #[.bool r.hd.pad, .bool r.hd.ext, .bool r.hd.mark, .int .i64 r.hd.typ, .int .u16 r.hd.seq, .int .u32 r.hd.time, .int .u32 r.hd.ssrc, .slice A9 r.hd.csrc.length a9, .int .u16 r.prof, .slice B9 r.ext.length b9, .slice C9 r.pay.length c9, .int .i64 r.pad] 29)
    replace hq := hq.alloc (.cells #[.bool r.hd.pad, .bool r.hd.ext, .bool r.hd.mark, .int .i64 r.hd.typ, .int .u16 r.hd.seq, .int .u32 r.hd.time, .int .u32 r.hd.ssrc, .slice A9 r.hd.csrc.length a9, .int .u16 r.prof, .slice B9 r.ext.length b9, .slice C9 r.pay.length c9, .int .i64 r.pad] 29)
    replace k8 := k8.alloc (.cells #[.bool r.hd.pad, .bool r.hd.ext, .bool r.hd.mark, .int .i64 r.hd.typ, .int .u16 r.hd.seq, .int .u32 r.hd.time, .int .u32 r.hd.ssrc, .slice A9 r.hd.csrc.length a9, .int .u16 r.prof, .slice B9 r.ext.length b9, .slice C9 r.pay.length c9, .int .i64 r.pad] 29)
    replace hz := hz.alloc (.cells #[.bool r.hd.pad, .bool r.hd.ext, .bool r.hd.mark, .int .i64 r.hd.typ, .int .u16 r.hd.seq, .int .u32 r.hd.time, .int .u32 r.hd.ssrc, .slice A9 r.hd.csrc.length a9, .int .u16 r.prof, .slice B9 r.ext.length b9, .slice C9 r.pay.length c9, .int .i64 r.pad] 29)
    replace hB := hB.alloc hB.size (.cells #[.bool r.hd.pad, .bool r.hd.ext, .bool r.hd.mark, .int .i64 r.hd.typ, .int .u16 r.hd.seq, .int .u32 r.hd.time, .int .u32 r.hd.ssrc, .slice A9 r.hd.csrc.length a9, .int .u16 r.prof, .slice B9 r.ext.length b9, .slice C9 r.pay.length c9, .int .i64 r.pad] 29)
    have fk1 := k1.all12.1
    have fk8 := k8.all12.1
    have fk9 := k9.all12.1
    go_wp2_with fail
    refine (right_told KC p A n c B lb cb C lc cc _ (hok.out _ h1) true hpr.out).mono ?_
    rintro e w10 ⟨rfl, hb⟩
    clear fk1
    clear fk8
    clear fk9
    replace h1 := h1.below hb
    replace hs1 := hs1.below hb
    replace k1 := k1.call hb
    replace hx := hx.below hb
    replace hq := hq.below hb
    replace k8 := k8.call hb
    replace hz := hz.below hb
    replace k9 := k9.call hb
    replace hB := hB.trans (hb.mono hB.size)
    clear hb
    have fk1 := k1.all12.1
    have fk8 := k8.all12.1
    have fk9 := k9.all12.1
    go_wp2_with fail
    refine (rsameP_told r A8 r.hd.csrc.length a8 B8 r.ext.length b8 C8 r.pay.length c8 r A9 r.hd.csrc.length a9 B9 r.ext.length b9 C9 r.pay.length c9 _ hq hz true (decide_eq_true rfl)).mono ?_
    rintro e w11 ⟨rfl, hb⟩
    clear fk1
    clear fk8
    clear fk9
    replace h1 := h1.below hb
    replace hs1 := hs1.below hb
    replace k1 := k1.call hb
    replace hx := hx.below hb
    replace hq := hq.below hb
    replace k8 := k8.call hb
    replace hz := hz.below hb
    replace k9 := k9.call hb
    replace hB := hB.trans (hb.mono hB.size)
    clear hb
    have fk1 := k1.all12.1
    have fk8 := k8.all12.1
    have fk9 := k9.all12.1
    go_wp2_with fail
    refine (canon_told KC D ld cd s _ hs1 (by omega) cn hcn).mono ?_
    rintro e w12 ⟨rfl, hb⟩
    clear fk1
    clear fk8
    clear fk9
    replace h1 := h1.below hb
    replace hs1 := hs1.below hb
    replace k1 := k1.call hb
    replace hx := hx.below hb
    replace hq := hq.below hb
    replace k8 := k8.call hb
    replace hz := hz.below hb
    replace k9 := k9.call hb
    replace hB := hB.trans (hb.mono hB.size)
    clear hb
    have fk1 := k1.all12.1
    have fk8 := k8.all12.1
    have fk9 := k9.all12.1
    go_wp2_with fail
    refine (rcanon_told D ld cd s _ hs1 (by omega) cn hcn).mono ?_
    rintro e w13 ⟨rfl, hb⟩
    clear fk1
    clear fk8
    clear fk9
    replace h1 := h1.below hb
    replace hs1 := hs1.below hb
    replace k1 := k1.call hb
    replace hx := hx.below hb
    replace hq := hq.below hb
    replace k8 := k8.call hb
    replace hz := hz.below hb
    replace k9 := k9.call hb
    replace hB := hB.trans (hb.mono hB.size)
    clear hb
    have fk1 := k1.all12.1
    have fk8 := k8.all12.1
    have fk9 := k9.all12.1
    go_wp2_with fail
    go_ret
    refine ⟨?_, hB⟩
    first | rfl | (simp; done)

set_option maxRecDepth 100000 in
set_option maxHeartbeats 4000000 in
theorem packetRight_yes (p : Pk) (A : Option Addr) (n c : Nat) (B : Option Addr) (lb cb : Nat) (C : Option Addr) (lc cc : Nat) (room : Int) (D : Option Addr) (ld cd : Nat) (s : List UInt8) (w : World) (h : PkIn w p A n c B lb cb C lc cc) (hs : Bs w D ld cd s) (hn : n ≤ 99) (hlb : lb ≤ 300000) (hlc : lc ≤ 70000) (hld : ld ≤ 70000) (hf : fitsP p) (ht : (Lit.int .i64 p.hd.typ).wf = true) (hp : (Lit.int .i64 p.pad).wf = true) (hroom : (Lit.int .i64 room).wf = true) (hr : rightP p = true) (hm : sizeP p ≤ room) :
    Calls Try.prog 3 #[pkV p A n c B lb cb C lc cc, .int .i64 room, .slice D ld cd] w fun e w' => e = .returned (.bool true) ∧ Below w.heap.size w w' := by
  have hok := Lib.hid (fun (W : World) (h : PkIn W p A n c B lb cb C lc cc) => (⟨h, by omega, by omega, by omega, hf, ht, hp⟩ : PkOk W p A n c B lb cb C lc cc))
  obtain ⟨hX, hE, hZ⟩ := writeP_yes hr hm
  have hsh : shortP p = true := by unfold shortP; rw [decide_eq_true_eq, h.us.len, h.ext.len, h.pay.len]; omega
  have hpad : 0 ≤ p.pad ∧ p.pad ≤ 255 := by
    obtain ⟨_, _, _, _, _, q6, q7, _⟩ := rightP_parts hr
    cases hq : p.hd.pad
    · rw [q7 hq]; omega
    · have := q6 hq; omega
  have RZ : Hid (∀ W : World, Calls Try.prog 11 #[pkV p A n c B lb cb C lc cc] W (Says W (.int .i64 (sizeP p)))) := Lib.hid (fun W => by rw [h.size]; exact rsize_any _ _ _ _ _ _ _ A n c _ B lb cb C lc cc _ W hn (by omega) hpad)
  have RW : Hid (∀ W : World, PkIn W p A n c B lb cb C lc cc → Calls Try.prog 12 #[pkV p A n c B lb cb C lc cc] W (GivesB W 5 (packB p))) := Lib.hid (fun W h => rpwrite_any p A n c B lb cb C lc cc W h hr hf)
  have hl := (packB_length_nat hr).1
  have hl2 := (packB_length_nat hr).2
  have hsz := Lib.hid hZ
  have hXX := Lib.hid hX
  have hEE := Lib.hid hE
  have hpr := Lib.hid hr
  clear hX hE hZ hr
  have hzb : sizeP p ≤ 65535 := (rightP_parts hpr.out).2.2.2.2.2.2.2
  have hrq := Lib.hid (rfl : sizeP p = sizeP p)
  generalize packB p = X at *
  generalize hzz : sizeP p = z at *
  clear hzz
  obtain ⟨r, hrr⟩ : ∃ r, readP s = r := ⟨_, rfl⟩
  obtain ⟨er, her⟩ : ∃ er, pErr s = er := ⟨_, rfl⟩
  obtain ⟨cn, hcn⟩ : ∃ cn, canonP s = cn := ⟨_, rfl⟩
  unfold pkV
  have k1 := Box.new w [.bool p.hd.pad, .bool p.hd.ext, .bool p.hd.mark, .int .i64 p.hd.typ, .int .u16 p.hd.seq, .int .u32 p.hd.time, .int .u32 p.hd.ssrc, .slice A n c, .int .u16 p.prof, .slice B lb cb, .slice C lc cc, .int .i64 p.pad] 29
  have h1 := h.alloc (.cells #[.bool p.hd.pad, .bool p.hd.ext, .bool p.hd.mark, .int .i64 p.hd.typ, .int .u16 p.hd.seq, .int .u32 p.hd.time, .int .u32 p.hd.ssrc, .slice A n c, .int .u16 p.prof, .slice B lb cb, .slice C lc cc, .int .i64 p.pad] 29)
  have hs1 := hs.alloc (.cells #[.bool p.hd.pad, .bool p.hd.ext, .bool p.hd.mark, .int .i64 p.hd.typ, .int .u16 p.hd.seq, .int .u32 p.hd.time, .int .u32 p.hd.ssrc, .slice A n c, .int .u16 p.prof, .slice B lb cb, .slice C lc cc, .int .i64 p.pad] 29)
  have hB := below1 w (.cells #[.bool p.hd.pad, .bool p.hd.ext, .bool p.hd.mark, .int .i64 p.hd.typ, .int .u16 p.hd.seq, .int .u32 p.hd.time, .int .u32 p.hd.ssrc, .slice A n c, .int .u16 p.prof, .slice B lb cb, .slice C lc cc, .int .i64 p.pad] 29)
  go_enter Try.func3, Try.ntmps3
  go_wp2_with fail
  refine (awake_any KC _).mono ?_
  rintro e w2 ⟨rfl, hb⟩
  replace h1 := h1.below hb
  replace hs1 := hs1.below hb
  replace k1 := k1.call hb
  replace hB := hB.trans (hb.mono hB.size)
  clear hb
  have fk1 := k1.all12.1
  go_wp2_with fail
  refine (rshort_told p A n c B lb cb C lc cc _ h1 true hsh).mono ?_
  rintro e w3 ⟨rfl, hb⟩
  clear fk1
  replace h1 := h1.below hb
  replace hs1 := hs1.below hb
  replace k1 := k1.call hb
  replace hB := hB.trans (hb.mono hB.size)
  clear hb
  have fk1 := k1.all12.1
  go_wp2_with fail
  refine (rright_told p A n c B lb cb C lc cc _ h1 hn true hpr.out).mono ?_
  rintro e w4 ⟨rfl, hb⟩
  clear fk1
  replace h1 := h1.below hb
  replace hs1 := hs1.below hb
  replace k1 := k1.call hb
  replace hB := hB.trans (hb.mono hB.size)
  clear hb
  have fk1 := k1.all12.1
  go_wp2_with fail
  refine (write_told KC p A n c B lb cb C lc cc room _ (hok.out _ h1) hroom X X.length 0 hXX.out rfl hEE.out).mono ?_
  rintro e w6 ⟨A6, c6, rfl, hx, hb⟩
  clear fk1
  replace h1 := h1.below hb
  replace hs1 := hs1.below hb
  replace k1 := k1.call hb
  replace hB := hB.trans (hb.mono hB.size)
  clear hb
  have fk1 := k1.all12.1
  go_wp2_with fail
  refine (RZ.out _).mono ?_
  rintro e w7 ⟨rfl, hb⟩
  clear fk1
  replace h1 := h1.below hb
  replace hs1 := hs1.below hb
  replace k1 := k1.call hb
  replace hx := hx.below hb
  replace hB := hB.trans (hb.mono hB.size)
  clear hb
  have fk1 := k1.all12.1
  go_upto_region 7 with fail
  go_cut [48] (fun q W => q = .bool false ∧ Below w7.heap.size w7 W)
  case first =>
    refine wp_region_held_drew (S := (fun W => (convert 27 9 (.slice A6 X.length c6)).run Try.prog W = .ok (.string ⟨X.toArray⟩) W ∧ W.cell? ⟨w.heap.size, 0, none⟩ = some (.bool p.hd.pad) ∧ W.cell? ⟨w.heap.size, 1, none⟩ = some (.bool p.hd.ext) ∧ W.cell? ⟨w.heap.size, 2, none⟩ = some (.bool p.hd.mark) ∧ W.cell? ⟨w.heap.size, 3, none⟩ = some (.int .i64 p.hd.typ) ∧ W.cell? ⟨w.heap.size, 4, none⟩ = some (.int .u16 p.hd.seq) ∧ W.cell? ⟨w.heap.size, 5, none⟩ = some (.int .u32 p.hd.time) ∧ W.cell? ⟨w.heap.size, 6, none⟩ = some (.int .u32 p.hd.ssrc) ∧ W.cell? ⟨w.heap.size, 7, none⟩ = some (.slice A n c) ∧ W.cell? ⟨w.heap.size, 8, none⟩ = some (.int .u16 p.prof) ∧ W.cell? ⟨w.heap.size, 9, none⟩ = some (.slice B lb cb) ∧ W.cell? ⟨w.heap.size, 10, none⟩ = some (.slice C lc cc) ∧ W.cell? ⟨w.heap.size, 11, none⟩ = some (.int .i64 p.pad))) (by kernel_rfl) ⟨str_of hx.drew, fk1⟩ (fun hHeld => ?_)
    clear fk1
    refine wpAnyH_take (i := 0) (v := ?vY0) rfl (by kernel_rfl) (by kernel_rfl) (by kernel_rfl) (fun _ _ _ h => h) (Or.inl ⟨by rfl, ?hY0⟩) (by assumption) ?rY0
    case hY0 => (intro w hSw; (try dsimp only at hSw); go_simp; try with_reducible rfl)
    change wpAnyH _ _ _ _ _ _ _ (Act.put _ (some 32) _) _
    simp only [Act.put, List.setIfInBounds_toArray, List.set_cons_zero, List.set_cons_succ]
    refine wpAnyH_take (i := 1) (v := ?vY1) rfl (by kernel_rfl) (by kernel_rfl) (by kernel_rfl) (fun _ _ _ h => h) (Or.inl ⟨by rfl, ?hY1⟩) (by assumption) ?rY1
    case hY1 => (intro w hSw; (try dsimp only at hSw); go_simp; try with_reducible rfl)
    change wpAnyH _ _ _ _ _ _ _ (Act.put _ (some 33) _) _
    simp only [Act.put, List.setIfInBounds_toArray, List.set_cons_zero, List.set_cons_succ]
    refine wpAnyH_take (i := 2) (v := ?vY2) rfl (by kernel_rfl) (by kernel_rfl) (by kernel_rfl) (fun _ _ _ h => h) (Or.inl ⟨by rfl, ?hY2⟩) (by assumption) ?rY2
    case hY2 => (intro w hSw; (try dsimp only at hSw); go_simp; try with_reducible rfl)
    change wpAnyH _ _ _ _ _ _ _ (Act.put _ (some 34) _) _
    simp only [Act.put, List.setIfInBounds_toArray, List.set_cons_zero, List.set_cons_succ]
    refine wpAnyH_take (i := 3) (v := ?vY3) rfl (by kernel_rfl) (by kernel_rfl) (by kernel_rfl) (fun _ _ _ h => h) (Or.inl ⟨by rfl, ?hY3⟩) (by assumption) ?rY3
    case hY3 => (intro w hSw; (try dsimp only at hSw); go_simp; try with_reducible rfl)
    change wpAnyH _ _ _ _ _ _ _ (Act.put _ (some 35) _) _
    simp only [Act.put, List.setIfInBounds_toArray, List.set_cons_zero, List.set_cons_succ]
    refine wpAnyH_take (i := 4) (v := ?vY4) rfl (by kernel_rfl) (by kernel_rfl) (by kernel_rfl) (fun _ _ _ h => h) (Or.inl ⟨by rfl, ?hY4⟩) (by assumption) ?rY4
    case hY4 => (intro w hSw; (try dsimp only at hSw); go_simp; try with_reducible rfl)
    change wpAnyH _ _ _ _ _ _ _ (Act.put _ (some 36) _) _
    simp only [Act.put, List.setIfInBounds_toArray, List.set_cons_zero, List.set_cons_succ]
    refine wpAnyH_take (i := 5) (v := ?vY5) rfl (by kernel_rfl) (by kernel_rfl) (by kernel_rfl) (fun _ _ _ h => h) (Or.inl ⟨by rfl, ?hY5⟩) (by assumption) ?rY5
    case hY5 => (intro w hSw; (try dsimp only at hSw); go_simp; try with_reducible rfl)
    change wpAnyH _ _ _ _ _ _ _ (Act.put _ (some 37) _) _
    simp only [Act.put, List.setIfInBounds_toArray, List.set_cons_zero, List.set_cons_succ]
    refine wpAnyH_ready (rs := [6]) (by kernel_rfl) (by simp) ?_
    refine AllReadyH.cons rfl (fun K hK => ?_) AllReadyH.nil
    go_simp
    refine (RW.out _ h1.drew).mono ?_
    rintro e wa ⟨A7, c7, rfl, ho7, hba⟩
    go_wp2_with fail
    have t6 := str_of (Bs.below (w := w7.drew) hx hba)
    have t7 := str_of ho7.bs
    have ka := Box.call (w := w7.drew) k1 hba
    have fa := ka.all12.1
    have ha := PkIn.below (w := w7.drew) h1.drew hba
    refine hK.out _ _ ?_ (fun hHeld => ?_)
    · exact ⟨t6, fa⟩
    clear hK K
    try simp only [Act.put, List.setIfInBounds_toArray, List.set_cons_zero, List.set_cons_succ]
    have hHeld2 : (fun W => (convert 27 9 (.slice A7 X.length c7)).run Try.prog W = .ok (.string ⟨X.toArray⟩) W ∧ (convert 27 9 (.slice A6 X.length c6)).run Try.prog W = .ok (.string ⟨X.toArray⟩) W ∧ W.cell? ⟨w.heap.size, 0, none⟩ = some (.bool p.hd.pad) ∧ W.cell? ⟨w.heap.size, 1, none⟩ = some (.bool p.hd.ext) ∧ W.cell? ⟨w.heap.size, 2, none⟩ = some (.bool p.hd.mark) ∧ W.cell? ⟨w.heap.size, 3, none⟩ = some (.int .i64 p.hd.typ) ∧ W.cell? ⟨w.heap.size, 4, none⟩ = some (.int .u16 p.hd.seq) ∧ W.cell? ⟨w.heap.size, 5, none⟩ = some (.int .u32 p.hd.time) ∧ W.cell? ⟨w.heap.size, 6, none⟩ = some (.int .u32 p.hd.ssrc) ∧ W.cell? ⟨w.heap.size, 7, none⟩ = some (.slice A n c) ∧ W.cell? ⟨w.heap.size, 8, none⟩ = some (.int .u16 p.prof) ∧ W.cell? ⟨w.heap.size, 9, none⟩ = some (.slice B lb cb) ∧ W.cell? ⟨w.heap.size, 10, none⟩ = some (.slice C lc cc) ∧ W.cell? ⟨w.heap.size, 11, none⟩ = some (.int .i64 p.pad)) wa := ⟨t7, t6, fa⟩
    refine wpAnyH_mono (S2 := (fun W => (convert 27 9 (.slice A7 X.length c7)).run Try.prog W = .ok (.string ⟨X.toArray⟩) W ∧ (convert 27 9 (.slice A6 X.length c6)).run Try.prog W = .ok (.string ⟨X.toArray⟩) W ∧ W.cell? ⟨w.heap.size, 0, none⟩ = some (.bool p.hd.pad) ∧ W.cell? ⟨w.heap.size, 1, none⟩ = some (.bool p.hd.ext) ∧ W.cell? ⟨w.heap.size, 2, none⟩ = some (.bool p.hd.mark) ∧ W.cell? ⟨w.heap.size, 3, none⟩ = some (.int .i64 p.hd.typ) ∧ W.cell? ⟨w.heap.size, 4, none⟩ = some (.int .u16 p.hd.seq) ∧ W.cell? ⟨w.heap.size, 5, none⟩ = some (.int .u32 p.hd.time) ∧ W.cell? ⟨w.heap.size, 6, none⟩ = some (.int .u32 p.hd.ssrc) ∧ W.cell? ⟨w.heap.size, 7, none⟩ = some (.slice A n c) ∧ W.cell? ⟨w.heap.size, 8, none⟩ = some (.int .u16 p.prof) ∧ W.cell? ⟨w.heap.size, 9, none⟩ = some (.slice B lb cb) ∧ W.cell? ⟨w.heap.size, 10, none⟩ = some (.slice C lc cc) ∧ W.cell? ⟨w.heap.size, 11, none⟩ = some (.int .i64 p.pad))) (fun _ h => h.2) ?_
    refine wpAnyH_take (i := 7) (v := ?vY7) rfl (by kernel_rfl) (by kernel_rfl) (by kernel_rfl) (fun _ _ _ h => h) (Or.inl ⟨by rfl, ?hY7⟩) (by assumption) ?rY7
    case hY7 => (intro w hSw; (try dsimp only at hSw); go_simp; try with_reducible rfl)
    change wpAnyH _ _ _ _ _ _ _ (Act.put _ (some 39) _) _
    simp only [Act.put, List.setIfInBounds_toArray, List.set_cons_zero, List.set_cons_succ]
    refine wpAnyH_take (i := 8) (v := ?vY8) rfl (by kernel_rfl) (by kernel_rfl) (by kernel_rfl) (fun _ _ _ h => h) (Or.inl ⟨by rfl, ?hY8⟩) (by assumption) ?rY8
    case hY8 => (intro w hSw; (try dsimp only at hSw); go_simp; try with_reducible rfl)
    change wpAnyH _ _ _ _ _ _ _ (Act.put _ (some 40) _) _
    simp only [Act.put, List.setIfInBounds_toArray, List.set_cons_zero, List.set_cons_succ]
    refine wpAnyH_take (i := 9) (v := ?vY9) rfl (by kernel_rfl) (by kernel_rfl) (by kernel_rfl) (fun _ _ _ h => h) (Or.inl ⟨by rfl, ?hY9⟩) (by assumption) ?rY9
    case hY9 => (intro w hSw; (try dsimp only at hSw); go_simp; try with_reducible rfl)
    change wpAnyH _ _ _ _ _ _ _ (Act.put _ (some 41) _) _
    simp only [Act.put, List.setIfInBounds_toArray, List.set_cons_zero, List.set_cons_succ]
    refine wpAnyH_take (i := 10) (v := ?vY10) rfl (by kernel_rfl) (by kernel_rfl) (by kernel_rfl) (fun _ _ _ h => h) (Or.inl ⟨by rfl, ?hY10⟩) (by assumption) ?rY10
    case hY10 => (intro w hSw; (try dsimp only at hSw); go_simp; try with_reducible rfl)
    change wpAnyH _ _ _ _ _ _ _ (Act.put _ (some 42) _) _
    simp only [Act.put, List.setIfInBounds_toArray, List.set_cons_zero, List.set_cons_succ]
    refine wpAnyH_take (i := 11) (v := ?vY11) rfl (by kernel_rfl) (by kernel_rfl) (by kernel_rfl) (fun _ _ _ h => h) (Or.inl ⟨by rfl, ?hY11⟩) (by assumption) ?rY11
    case hY11 => (intro w hSw; (try dsimp only at hSw); go_simp; try with_reducible rfl)
    change wpAnyH _ _ _ _ _ _ _ (Act.put _ (some 43) _) _
    simp only [Act.put, List.setIfInBounds_toArray, List.set_cons_zero, List.set_cons_succ]
    refine wpAnyH_take (i := 13) (v := ?vY13) rfl (by kernel_rfl) (by kernel_rfl) (by kernel_rfl) (fun _ _ _ h => h) (Or.inl ⟨by rfl, ?hY13⟩) (by assumption) ?rY13
    case hY13 => (intro w hSw; (try dsimp only at hSw); go_simp; try with_reducible rfl)
    change wpAnyH _ _ _ _ _ _ _ (Act.put _ (some 45) _) _
    simp only [Act.put, List.setIfInBounds_toArray, List.set_cons_zero, List.set_cons_succ]
    refine wpAnyH_take (i := 14) (v := ?vY14) rfl (by kernel_rfl) (by kernel_rfl) (by kernel_rfl) (fun _ _ _ h => h) (Or.inl ⟨by rfl, ?hY14⟩) (by assumption) ?rY14
    case hY14 => (intro w hSw; (try dsimp only at hSw); go_simp; try with_reducible rfl)
    change wpAnyH _ _ _ _ _ _ _ (Act.put _ (some 46) _) _
    simp only [Act.put, List.setIfInBounds_toArray, List.set_cons_zero, List.set_cons_succ]
    refine wpAnyH_ready (rs := [12]) (by kernel_rfl) (by simp) ?_
    refine AllReadyH.cons rfl (fun K hK => ?_) AllReadyH.nil
    go_simp
    refine (size_told KC p A n c B lb cb C lc cc _ (hok.out _ ha) z hsz.out).mono ?_
    rintro e wb ⟨rfl, hbb⟩
    go_wp2_with fail
    refine hK.out _ _ ?_ (fun hHeld => ?_)
    · exact ⟨str_of (ho7.bs.below hbb), str_of ((Bs.below (w := w7.drew) hx hba).below hbb), (ka.call hbb).all12.1⟩
    clear hK K
    try simp only [Act.put, List.setIfInBounds_toArray, List.set_cons_zero, List.set_cons_succ]
    refine wpAnyH_take (i := 15) (v := ?vY15) rfl (by kernel_rfl) (by kernel_rfl) (by kernel_rfl) (fun _ _ _ h => h) (Or.inl ⟨by rfl, ?hY15⟩) (by assumption) ?rY15
    case hY15 => (intro w hSw; (try dsimp only at hSw); go_simp; try with_reducible rfl)
    change wpAnyH _ _ _ _ _ _ _ (Act.put _ (some 47) _) _
    simp only [Act.put, List.setIfInBounds_toArray, List.set_cons_zero, List.set_cons_succ]
    refine wpAnyH_take (i := 16) (v := ?vY16) rfl (by kernel_rfl) (by kernel_rfl) (by kernel_rfl) (fun _ _ _ h => h) (Or.inl ⟨by rfl, ?hY16⟩) (by assumption) ?rY16
    case hY16 => (intro w hSw; (try dsimp only at hSw); go_simp; try with_reducible rfl)
    change wpAnyH _ _ _ _ _ _ _ (Act.put _ (some 48) _) _
    simp only [Act.put, List.setIfInBounds_toArray, List.set_cons_zero, List.set_cons_succ]
    refine wpAnyH_done (by kernel_rfl) ?_ _
    go_wp2_with fail
    go_meet
    exact ⟨rfl, (Below.refl _ w7).drew.trans (hba.trans (hbb.mono hba.size))⟩
  case rest =>
    obtain ⟨rfl, hb⟩ := hcut
    clear fk1
    replace h1 := h1.below hb
    replace hs1 := hs1.below hb
    replace k1 := k1.call hb
    replace hx := hx.below hb
    replace hB := hB.trans (hb.mono hB.size)
    clear hb
    have fk1 := k1.all12.1
    go_wp2_with fail
    refine (KC.read D ld cd s _ hs1 (by omega)).mono ?_
    rintro e w8 ⟨A8, a8, B8, b8, C8, c8, rfl, hq, hb⟩
    rw [hrr] at hq ⊢
    rw [her]
    clear fk1
    replace h1 := h1.below hb
    replace hs1 := hs1.below hb
    replace k1 := k1.call hb
    replace hx := hx.below hb
    replace hB := hB.trans (hb.mono hB.size)
    clear hb
    have k8 := Box.new w8 [.bool r.hd.pad, .bool r.hd.ext, .bool r.hd.mark, .int .i64 r.hd.typ, .int .u16 r.hd.seq, .int .u32 r.hd.time, .int .u32 r.hd.ssrc, .slice A8 r.hd.csrc.length a8, .int .u16 r.prof, .slice B8 r.ext.length b8, .slice C8 r.pay.length c8, .int .i64 r.pad] 29
    dsimp only [pkV]
    replace h1 := h1.alloc (.cells #[.bool r.hd.pad, .bool r.hd.ext, .bool r.hd.mark, .int .i64 r.hd.typ, .int .u16 r.hd.seq, .int .u32 r.hd.time, .int .u32 r.hd.ssrc, .slice A8 r.hd.csrc.length a8, .int .u16 r.prof, .slice B8 r.ext.length b8, .slice C8 r.pay.length c8, .int .i64 r.pad] 29)
    replace hs1 := hs1.alloc (.cells #[.bool r.hd.pad, .bool r.hd.ext, .bool r.hd.mark, .int .i64 r.hd.typ, .int .u16 r.hd.seq, .int .u32 r.hd.time, .int .u32 r.hd.ssrc, .slice A8 r.hd.csrc.length a8, .int .u16 r.prof, .slice B8 r.ext.length b8, .slice C8 r.pay.length c8, .int .i64 r.pad] 29)
    replace k1 := k1.alloc (.cells #[.bool r.hd.pad, .bool r.hd.ext, .bool r.hd.mark, .int .i64 r.hd.typ, .int .u16 r.hd.seq, .int .u32 r.hd.time, .int .u32 r.hd.ssrc, .slice A8 r.hd.csrc.length a8, .int .u16 r.prof, .slice B8 r.ext.length b8, .slice C8 r.pay.length c8, .int .i64 r.pad] 29)
    replace hx := hx.alloc (.cells #[.bool r.hd.pad, .bool r.hd.ext, .bool r.hd.mark, .int .i64 r.hd.typ, .int .u16 r.hd.seq, .int .u32 r.hd.time, .int .u32 r.hd.ssrc, .slice A8 r.hd.csrc.length a8, .int .u16 r.prof, .slice B8 r.ext.length b8, .slice C8 r.pay.length c8, .int .i64 r.pad] 29)
    replace hq := hq.alloc (.cells #[.bool r.hd.pad, .bool r.hd.ext, .bool r.hd.mark, .int .i64 r.hd.typ, .int .u16 r.hd.seq, .int .u32 r.hd.time, .int .u32 r.hd.ssrc, .slice A8 r.hd.csrc.length a8, .int .u16 r.prof, .slice B8 r.ext.length b8, .slice C8 r.pay.length c8, .int .i64 r.pad] 29)
    replace hB := hB.alloc hB.size (.cells #[.bool r.hd.pad, .bool r.hd.ext, .bool r.hd.mark, .int .i64 r.hd.typ, .int .u16 r.hd.seq, .int .u32 r.hd.time, .int .u32 r.hd.ssrc, .slice A8 r.hd.csrc.length a8, .int .u16 r.prof, .slice B8 r.ext.length b8, .slice C8 r.pay.length c8, .int .i64 r.pad] 29)
    have fk1 := k1.all12.1
    have fk8 := k8.all12.1
    go_wp2_with fail
    refine (rpread_any D ld cd s _ hs1 (by omega)).mono ?_
    rintro e w9 ⟨A9, a9, B9, b9, C9, c9, rfl, hz, hb⟩
    rw [hrr] at hz ⊢
    rw [her]
    clear fk1
    clear fk8
    replace h1 := h1.below hb
    replace hs1 := hs1.below hb
    replace k1 := k1.call hb
    replace hx := hx.below hb
    replace hq := hq.below hb
    replace k8 := k8.call hb
    replace hB := hB.trans (hb.mono hB.size)
    clear hb
    have k9 := Box.new w9 [.bool r.hd.pad, .bool r.hd.ext, .bool r.hd.mark, .int .i64 r.hd.typ, .int .u16 r.hd.seq, .int .u32 r.hd.time, .int .u32 r.hd.ssrc, .slice A9 r.hd.csrc.length a9, .int .u16 r.prof, .slice B9 r.ext.length b9, .slice C9 r.pay.length c9, .int .i64 r.pad] 29
    dsimp only [pkV]
    replace h1 := h1.alloc (.cells #[.bool r.hd.pad, .bool r.hd.ext, .bool r.hd.mark, .int .i64 r.hd.typ, .int .u16 r.hd.seq, .int .u32 r.hd.time, .int .u32 r.hd.ssrc, .slice A9 r.hd.csrc.length a9, .int .u16 r.prof, .slice B9 r.ext.length b9, .slice C9 r.pay.length c9, .int .i64 r.pad] 29)
    replace hs1 := hs1.alloc (.cells #[.bool r.hd.pad, .bool r.hd.ext, .bool r.hd.mark, .int .i64 r.hd.typ, .int .u16 r.hd.seq, .int .u32 r.hd.time, .int .u32 r.hd.ssrc, .slice A9 r.hd.csrc.length a9, .int .u16 r.prof, .slice B9 r.ext.length b9, .slice C9 r.pay.length c9, .int .i64 r.pad] 29)
    replace k1 := k1.alloc (.cells #[.bool r.hd.pad, .bool r.hd.ext, .bool r.hd.mark, .int .i64 r.hd.typ, .int .u16 r.hd.seq, .int .u32 r.hd.time, .int .u32 r.hd.ssrc, .slice A9 r.hd.csrc.length a9, .int .u16 r.prof, .slice B9 r.ext.length b9, .slice C9 r.pay.length c9, .int .i64 r.pad] 29)
    replace hx := hx.alloc (.cells #[.bool r.hd.pad, .bool r.hd.ext, .bool r.hd.mark, .int .i64 r.hd.typ, .int .u16 r.hd.seq, .int .u32 r.hd.time, .int .u32 r.hd.ssrc, .slice A9 r.hd.csrc.length a9, .int .u16 r.prof, .slice B9 r.ext.length b9, .slice C9 r.pay.length c9, .int .i64 r.pad] 29)
    replace hq := hq.alloc (.cells #[.bool r.hd.pad, .bool r.hd.ext, .bool r.hd.mark, .int .i64 r.hd.typ, .int .u16 r.hd.seq, .int .u32 r.hd.time, .int .u32 r.hd.ssrc, .slice A9 r.hd.csrc.length a9, .int .u16 r.prof, .slice B9 r.ext.length b9, .slice C9 r.pay.length c9, .int .i64 r.pad] 29)
    replace k8 := k8.alloc (.cells #[.bool r.hd.pad, .bool r.hd.ext, .bool r.hd.mark, .int .i64 r.hd.typ, .int .u16 r.hd.seq, .int .u32 r.hd.time, .int .u32 r.hd.ssrc, .slice A9 r.hd.csrc.length a9, .int .u16 r.prof, .slice B9 r.ext.length b9, .slice C9 r.pay.length c9, .int .i64 r.pad] 29)
    replace hz := hz.alloc (.cells #[.bool r.hd.pad, .bool r.hd.ext, .bool r.hd.mark, .int .i64 r.hd.typ, .int .u16 r.hd.seq, .int .u32 r.hd.time, .int .u32 r.hd.ssrc, .slice A9 r.hd.csrc.length a9, .int .u16 r.prof, .slice B9 r.ext.length b9, .slice C9 r.pay.length c9, .int .i64 r.pad] 29)
    replace hB := hB.alloc hB.size (.cells #[.bool r.hd.pad, .bool r.hd.ext, .bool r.hd.mark, .int .i64 r.hd.typ, .int .u16 r.hd.seq, .int .u32 r.hd.time, .int .u32 r.hd.ssrc, .slice A9 r.hd.csrc.length a9, .int .u16 r.prof, .slice B9 r.ext.length b9, .slice C9 r.pay.length c9, .int .i64 r.pad] 29)
    have fk1 := k1.all12.1
    have fk8 := k8.all12.1
    have fk9 := k9.all12.1
    go_wp2_with fail
    refine (right_told KC p A n c B lb cb C lc cc _ (hok.out _ h1) true hpr.out).mono ?_
    rintro e w10 ⟨rfl, hb⟩
    clear fk1
    clear fk8
    clear fk9
    replace h1 := h1.below hb
    replace hs1 := hs1.below hb
    replace k1 := k1.call hb
    replace hx := hx.below hb
    replace hq := hq.below hb
    replace k8 := k8.call hb
    replace hz := hz.below hb
    replace k9 := k9.call hb
    replace hB := hB.trans (hb.mono hB.size)
    clear hb
    have fk1 := k1.all12.1
    have fk8 := k8.all12.1
    have fk9 := k9.all12.1
    go_wp2_with fail
    refine (rsameP_told r A8 r.hd.csrc.length a8 B8 r.ext.length b8 C8 r.pay.length c8 r A9 r.hd.csrc.length a9 B9 r.ext.length b9 C9 r.pay.length c9 _ hq hz true (decide_eq_true rfl)).mono ?_
    rintro e w11 ⟨rfl, hb⟩
    clear fk1
    clear fk8
    clear fk9
    replace h1 := h1.below hb
    replace hs1 := hs1.below hb
    replace k1 := k1.call hb
    replace hx := hx.below hb
    replace hq := hq.below hb
    replace k8 := k8.call hb
    replace hz := hz.below hb
    replace k9 := k9.call hb
    replace hB := hB.trans (hb.mono hB.size)
    clear hb
    have fk1 := k1.all12.1
    have fk8 := k8.all12.1
    have fk9 := k9.all12.1
    go_wp2_with fail
    refine (canon_told KC D ld cd s _ hs1 (by omega) cn hcn).mono ?_
    rintro e w12 ⟨rfl, hb⟩
    clear fk1
    clear fk8
    clear fk9
    replace h1 := h1.below hb
    replace hs1 := hs1.below hb
    replace k1 := k1.call hb
    replace hx := hx.below hb
    replace hq := hq.below hb
    replace k8 := k8.call hb
    replace hz := hz.below hb
    replace k9 := k9.call hb
    replace hB := hB.trans (hb.mono hB.size)
    clear hb
    have fk1 := k1.all12.1
    have fk8 := k8.all12.1
    have fk9 := k9.all12.1
    go_wp2_with fail
    refine (rcanon_told D ld cd s _ hs1 (by omega) cn hcn).mono ?_
    rintro e w13 ⟨rfl, hb⟩
    clear fk1
    clear fk8
    clear fk9
    replace h1 := h1.below hb
    replace hs1 := hs1.below hb
    replace k1 := k1.call hb
    replace hx := hx.below hb
    replace hq := hq.below hb
    replace k8 := k8.call hb
    replace hz := hz.below hb
    replace k9 := k9.call hb
    replace hB := hB.trans (hb.mono hB.size)
    clear hb
    have fk1 := k1.all12.1
    have fk8 := k8.all12.1
    have fk9 := k9.all12.1
    go_wp2_with fail
    go_ret
    refine ⟨?_, hB⟩
    first | rfl | (simp; done)

theorem packetRight_all (p : Pk) (A : Option Addr) (n c : Nat) (B : Option Addr) (lb cb : Nat) (C : Option Addr) (lc cc : Nat) (room : Int) (D : Option Addr) (ld cd : Nat) (s : List UInt8) (w : World) (h : PkIn w p A n c B lb cb C lc cc) (hs : Bs w D ld cd s) (hf : fitsP p) (ht : (Lit.int .i64 p.hd.typ).wf = true) (hp : (Lit.int .i64 p.pad).wf = true) (hroom : (Lit.int .i64 room).wf = true) :
    Calls Try.prog 3 #[pkV p A n c B lb cb C lc cc, .int .i64 room, .slice D ld cd] w fun e w' => e = .returned (.bool true) ∧ Below w.heap.size w w' := by
  have l1 := h.us.len
  have l2 := h.ext.len
  have l3 := h.pay.len
  by_cases hb : shortP p = false ∨ 70000 < ld
  · exact packetRight_big KC p A n c B lb cb C lc cc room D ld cd w h (Nat.le_trans hs.le (Nat.le_trans hs.cap (by decide))) hb
  · have hsh : shortP p = true := by
      cases hq : shortP p
      · exact absurd (.inl hq) hb
      · rfl
    unfold shortP at hsh
    rw [decide_eq_true_eq, l1, l2, l3] at hsh
    cases hr : rightP p
    · exact packetRight_no KC p A n c B lb cb C lc cc room D ld cd s w h hs hsh.1 hsh.2.1 hsh.2.2 (by omega) hf ht hp hroom hr
    · by_cases hm : sizeP p ≤ room
      · exact packetRight_yes KC p A n c B lb cb C lc cc room D ld cd s w h hs hsh.1 hsh.2.1 hsh.2.2 (by omega) hf ht hp hroom hr hm
      · exact packetRight_room KC p A n c B lb cb C lc cc room D ld cd s w h hs hsh.1 hsh.2.1 hsh.2.2 (by omega) hf ht hp hroom hr (by omega)
end

end Go.Proofs.Ytbalpndgpdbcbaa

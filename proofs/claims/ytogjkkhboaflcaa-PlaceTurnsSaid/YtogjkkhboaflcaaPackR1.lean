/-
  What the document's own answers for layer 6 come to: Same.
-/
import Derived.Test.YtogjkkhboaflcaaPackR
namespace Go.Proofs.Ytogjkkhboaflcaa
open Go.RowKit
set_option linter.unusedVariables false
set_option linter.unusedSimpArgs false

theorem rsameH_hd (h k : Hd) (A : Option Addr) (n c : Nat) (A' : Option Addr) (n' c' : Nat) (b : Bool) (w : World) (hl : Us w A n c h.csrc) (hl' : Us w A' n' c' k.csrc) (hb : decide (h = k) = b) :
    Calls Try.prog 24 #[.agg #[.bool h.pad, .bool h.ext, .bool h.mark, .int .i64 h.typ, .int .u16 h.seq, .int .u32 h.time, .int .u32 h.ssrc, .slice A n c], .agg #[.bool k.pad, .bool k.ext, .bool k.mark, .int .i64 k.typ, .int .u16 k.seq, .int .u32 k.time, .int .u32 k.ssrc, .slice A' n' c']] w (Says w (.bool b)) := by
  cases h; cases k
  subst hb
  exact rsameH_any _ _ _ _ _ _ _ A n c _ _ _ _ _ _ _ _ A' n' c' _ w hl hl'

set_option maxHeartbeats 2000000 in
theorem rsameP_any (p q : Pk) (A : Option Addr) (n c : Nat) (B : Option Addr) (lb cb : Nat) (C : Option Addr) (lc cc : Nat) (A' : Option Addr) (n' c' : Nat) (B' : Option Addr) (lb' cb' : Nat) (C' : Option Addr) (lc' cc' : Nat) (w : World) (h : PkIn w p A n c B lb cb C lc cc) (k : PkIn w q A' n' c' B' lb' cb' C' lc' cc') :
    Calls Try.prog 15 #[pkV p A n c B lb cb C lc cc, pkV q A' n' c' B' lb' cb' C' lc' cc'] w (Says w (.bool (decide (p = q)))) := by
  obtain ⟨b, hb⟩ : ∃ b, decide (p = q) = b := ⟨_, rfl⟩
  have Hb := Lib.hid hb
  rw [hb]
  clear hb
  obtain ⟨r, hr⟩ : ∃ r, decide (p.hd = q.hd) = r := ⟨_, rfl⟩
  have HS := Lib.hid (fun W h k => rsameH_hd p.hd q.hd A n c A' n' c' r W h k hr)
  unfold pkV
  obtain ⟨cs, hcs⟩ : ∃ cs : Array Value, cs = #[.bool p.hd.pad, .bool p.hd.ext, .bool p.hd.mark, .int .i64 p.hd.typ, .int .u16 p.hd.seq, .int .u32 p.hd.time, .int .u32 p.hd.ssrc, .slice A n c, .int .u16 p.prof, .slice B lb cb, .slice C lc cc, .int .i64 p.pad] := ⟨_, rfl⟩
  obtain ⟨ds, hds⟩ : ∃ ds : Array Value, ds = #[.bool q.hd.pad, .bool q.hd.ext, .bool q.hd.mark, .int .i64 q.hd.typ, .int .u16 q.hd.seq, .int .u32 q.hd.time, .int .u32 q.hd.ssrc, .slice A' n' c', .int .u16 q.prof, .slice B' lb' cb', .slice C' lc' cc', .int .i64 q.pad] := ⟨_, rfl⟩
  have k1 := (Box.new w [.bool p.hd.pad, .bool p.hd.ext, .bool p.hd.mark, .int .i64 p.hd.typ, .int .u16 p.hd.seq, .int .u32 p.hd.time, .int .u32 p.hd.ssrc, .slice A n c, .int .u16 p.prof, .slice B lb cb, .slice C lc cc, .int .i64 p.pad] 45).alloc (.cells ds 45)
  have k2 := Box.new (w.alloc (.cells cs 45)) [.bool q.hd.pad, .bool q.hd.ext, .bool q.hd.mark, .int .i64 q.hd.typ, .int .u16 q.hd.seq, .int .u32 q.hd.time, .int .u32 q.hd.ssrc, .slice A' n' c', .int .u16 q.prof, .slice B' lb' cb', .slice C' lc' cc', .int .i64 q.pad] 45
  have h2 := (h.alloc (.cells cs 45)).alloc (.cells ds 45)
  have j2 := (k.alloc (.cells cs 45)).alloc (.cells ds 45)
  have hB := below2 w (.cells cs 45) (.cells ds 45)
  subst hcs hds
  rw [World.size_alloc] at k2
  go_enter Try.func15, Try.ntmps15
  go_wp2_with fail
  refine (HS.out _ h2.us j2.us).mono ?_
  rintro x w' ⟨rfl, hbel⟩
  replace k1 := (k1.call hbel).all12.1
  replace k2 := (k2.call hbel).all12.1
  replace h2 := h2.below hbel
  replace j2 := j2.below hbel
  replace hB := hB.trans (hbel.mono hB.size)
  have s1 := str_of h2.ext
  have s2 := str_of j2.ext
  have s3 := str_of h2.pay
  have s4 := str_of j2.pay
  go_wp2_with fail
  all_goals
    go_ret
    refine ⟨?_, hB⟩
    rw [← Hb.out]
    clear k1 k2 h2 j2 hB s1 s2 s3 s4 hbel HS h k Hb
  · refine congrArg (fun z => Ending.returned (.bool z)) (?_ : (p.pad == q.pad) = decide (p = q))
    rw [Bool.eq_iff_iff, beq_iff_eq, decide_eq_true_eq, Pk.eq_iff]
    have e1 : p.hd = q.hd := by rw [← decide_eq_true_eq (p := p.hd = q.hd), hr]; assumption
    constructor
    · intro e
      exact ⟨e1, by omega, by assumption, by assumption, e⟩
    · exact fun e => e.2.2.2.2
  all_goals
    refine congrArg (fun z => Ending.returned (.bool z)) (decide_eq_false ?_).symm
    rw [Pk.eq_iff]
    rintro ⟨e1, e2, e3, e4, e5⟩
    rw [decide_eq_true e1] at hr
    first
      | omega
      | contradiction
      | simp_all

end Go.Proofs.Ytogjkkhboaflcaa

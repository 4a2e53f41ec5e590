/-
  What the document's own answers for layer 6 come to: Short, Size, Right, Same.
-/
import Derived.Test.YtbalpndgpdbcbaaHeadR3
import Derived.Test.YtbalpndgpdbcbaaPackM
import Derived.Test.YtbalpndgpdbcbaaPadS
import Derived.Test.YtbalpndgpdbcbaaBox12
namespace Go.Proofs.Ytbalpndgpdbcbaa
open Go.RowKit
set_option linter.unusedVariables false
set_option linter.unusedSimpArgs false

/-- A packet that is handed over. -/
abbrev pkV (p : Pk) (A : Option Addr) (n c : Nat) (B : Option Addr) (lb cb : Nat) (C : Option Addr) (lc cc : Nat) : Value :=
  .agg #[.bool p.hd.pad, .bool p.hd.ext, .bool p.hd.mark, .int .i64 p.hd.typ, .int .u16 p.hd.seq, .int .u32 p.hd.time, .int .u32 p.hd.ssrc, .slice A n c, .int .u16 p.prof, .slice B lb cb, .slice C lc cc, .int .i64 p.pad]
/-- What its slices hold. -/
structure PkIn (w : World) (p : Pk) (A : Option Addr) (n c : Nat) (B : Option Addr) (lb cb : Nat) (C : Option Addr) (lc cc : Nat) : Prop where
  us : Us w A n c p.hd.csrc
  ext : Bs w B lb cb p.ext
  pay : Bs w C lc cc p.pay
section
variable {w w' : World} {p : Pk} {A B C : Option Addr} {n c lb cb lc cc : Nat}
theorem PkIn.below (h : PkIn w p A n c B lb cb C lc cc) (hb : Below w.heap.size w w') : PkIn w' p A n c B lb cb C lc cc := ⟨h.us.below hb, h.ext.below hb, h.pay.below hb⟩
theorem PkIn.alloc (h : PkIn w p A n c B lb cb C lc cc) (o : Obj) : PkIn (w.alloc o) p A n c B lb cb C lc cc := ⟨h.us.alloc o, h.ext.alloc o, h.pay.alloc o⟩
end

theorem rshort_any (p : Pk) (A : Option Addr) (n c : Nat) (B : Option Addr) (lb cb : Nat) (C : Option Addr) (lc cc : Nat) (w : World) (h : PkIn w p A n c B lb cb C lc cc) :
    Calls Try.prog 7 #[pkV p A n c B lb cb C lc cc] w (Says w (.bool (shortP p))) := by
  have l1 := h.us.len
  have l2 := h.ext.len
  have l3 := h.pay.len
  have b1 := h.us.bounds
  have b2 := h.ext.le
  have b3 := h.ext.cap
  have b4 := h.pay.le
  have b5 := h.pay.cap
  unfold maxLen at b3 b5
  obtain ⟨b, hb⟩ : ∃ b, shortP p = b := ⟨_, rfl⟩
  rw [hb]
  unfold shortP at hb
  rw [l1, l2, l3] at hb
  have Hb := Lib.hid hb
  clear hb l1 l2 l3
  unfold pkV
  go_enter Try.func7, Try.ntmps7
  go_wp2_with fail
  all_goals
    go_ret
    refine ⟨?_, below1 w _⟩
    rw [← Hb.out]
    first
      | (refine (congrArg (fun z => Ending.returned (.bool z)) (decide_eq_true ?_).symm); omega)
      | (refine (congrArg (fun z => Ending.returned (.bool z)) (decide_eq_false ?_).symm); omega)
      | (refine (congrArg (fun z => Ending.returned (.bool z)) (decide_eq_decide.2 ?_)); omega)
      | skip

/-- How many bytes a packet has, by its parts' lengths. -/
def sizeN (pd ex : Bool) (n lb lc : Nat) (k : Int) : Int := 12 + 4 * (n : Int) + (lc : Int) + (if ex = true then 4 + (lb : Int) else 0) + (if pd = true then k else 0)
theorem PkIn.size {w : World} {p : Pk} {A B C : Option Addr} {n c lb cb lc cc : Nat} (h : PkIn w p A n c B lb cb C lc cc) : sizeP p = sizeN p.hd.pad p.hd.ext n lb lc p.pad := by
  have l1 := h.us.len
  have l2 := h.ext.len
  have l3 := h.pay.len
  unfold sizeP sizeN
  rw [l1, l2, l3]
theorem rsize_any (pd ex mk : Bool) (t q ti ss : Int) (A : Option Addr) (n c : Nat) (pr : Int) (B : Option Addr) (lb cb : Nat) (C : Option Addr) (lc cc : Nat) (k : Int) (w : World) (hn : n ≤ 99) (hb : (lb : Int) ≤ 300000 ∧ (lc : Int) ≤ 300000) (hk : 0 ≤ k ∧ k ≤ 255) :
    Calls Try.prog 11 #[.agg #[.bool pd, .bool ex, .bool mk, .int .i64 t, .int .u16 q, .int .u32 ti, .int .u32 ss, .slice A n c, .int .u16 pr, .slice B lb cb, .slice C lc cc, .int .i64 k]] w (Says w (.int .i64 (sizeN pd ex n lb lc k))) := by
  obtain ⟨z, hz⟩ : ∃ z, sizeN pd ex n lb lc k = z := ⟨_, rfl⟩
  rw [hz]
  unfold sizeN at hz
  have Hz := Lib.hid hz
  clear hz
  cases pd
  all_goals cases ex
  all_goals
    go_enter Try.func11, Try.ntmps11
    go_wp2_with fail
    go_ret
    refine ⟨?_, below1 w _⟩
    rw [← Hz.out]
    refine congrArg (fun z => Ending.returned (.int .i64 z)) ?_
    simp only [if_true, Bool.false_eq_true, if_false]
    omega

theorem rhright_hd (h : Hd) (A : Option Addr) (n c : Nat) (r : Bool) (w : World) (hn : h.csrc.length = n) (hb : n ≤ 9223372036854775807) (hr : rightH h = r) :
    Calls Try.prog 19 #[.agg #[.bool h.pad, .bool h.ext, .bool h.mark, .int .i64 h.typ, .int .u16 h.seq, .int .u32 h.time, .int .u32 h.ssrc, .slice A n c]] w (Says w (.bool r)) := by
  cases h
  subst hr
  exact rhright_any _ _ _ _ _ _ _ A n c _ w hn hb

set_option maxHeartbeats 2000000 in
theorem rright_any (p : Pk) (A : Option Addr) (n c : Nat) (B : Option Addr) (lb cb : Nat) (C : Option Addr) (lc cc : Nat) (w : World) (h : PkIn w p A n c B lb cb C lc cc) (hn : n ≤ 99) :
    Calls Try.prog 8 #[pkV p A n c B lb cb C lc cc] w (Says w (.bool (rightP p))) := by
  have l1 := h.us.len
  have l2 := h.ext.len
  have l3 := h.pay.len
  have b1 := h.us.bounds
  have b2 := h.ext.le
  have b3 := h.ext.cap
  have b4 := h.pay.le
  have b5 := h.pay.cap
  unfold maxLen at b3 b5
  obtain ⟨b, hb⟩ : ∃ b, rightP p = b := ⟨_, rfl⟩
  rw [hb]
  unfold rightP at hb
  rw [l2, l3, h.size] at hb
  have Hb := Lib.hid hb
  obtain ⟨r, hr⟩ : ∃ r, rightH p.hd = r := ⟨_, rfl⟩
  rw [hr] at Hb
  have HR := Lib.hid (fun W => rhright_hd p.hd A n c r W l1 (by omega) hr)
  clear hb l1 l2 l3
  have hr0 : Int.tmod (lb : Int) 4 = ((lb % 4 : Nat) : Int) := by rw [Int.tmod_eq_emod_of_nonneg (by omega)]; omega
  have kb := Box.new w [.bool p.hd.pad, .bool p.hd.ext, .bool p.hd.mark, .int .i64 p.hd.typ, .int .u16 p.hd.seq, .int .u32 p.hd.time, .int .u32 p.hd.ssrc, .slice A n c, .int .u16 p.prof, .slice B lb cb, .slice C lc cc, .int .i64 p.pad] 29
  unfold pkV
  go_enter Try.func8, Try.ntmps8
  go_wp2_with fail
  refine (HR.out _).mono ?_
  rintro x w' ⟨rfl, hbel⟩
  have kc := (kb.call (Below.mono hbel (by simp))).all12.1
  have h2 := (h.alloc (.cells #[.bool p.hd.pad, .bool p.hd.ext, .bool p.hd.mark, .int .i64 p.hd.typ, .int .u16 p.hd.seq, .int .u32 p.hd.time, .int .u32 p.hd.ssrc, .slice A n c, .int .u16 p.prof, .slice B lb cb, .slice C lc cc, .int .i64 p.pad] 29)).below hbel
  have hB := (below1 w (.cells #[.bool p.hd.pad, .bool p.hd.ext, .bool p.hd.mark, .int .i64 p.hd.typ, .int .u16 p.hd.seq, .int .u32 p.hd.time, .int .u32 p.hd.ssrc, .slice A n c, .int .u16 p.prof, .slice B lb cb, .slice C lc cc, .int .i64 p.pad] 29)).trans (hbel.mono (by simp))
  go_wp2_with fail
  all_goals clear kc kb h2 hbel HR h hr
  all_goals first
    | (refine (rsize_any _ _ _ _ _ _ _ _ _ _ _ _ _ _ _ _ _ _ _ hn ?_ ?_).mono ?_
       next => omega
       next =>
         first
           | omega
           | (have e : p.pad = 0 := by simpa using ‹(p.pad != 0) = false›
              omega)
       rintro x w'' ⟨rfl, hb3⟩
       go_wp2_with fail
       all_goals
         go_ret
         refine ⟨?_, hB.trans (hb3.mono hB.size)⟩
         rw [← Hb.out]
         clear Hb hB hb3
         refine (congrArg (fun z => Ending.returned (.bool z)) (decide_eq_decide.2 ?_))
         constructor
         · intro q
           refine ⟨by assumption, by omega, by omega, ?_, ?_, ?_, ?_, ?_⟩
           all_goals first
             | (simp_all; done)
             | (simp_all; omega)
         · intro q
           have := q.2.2.2.2.2.2.2
           simp_all)
    | (go_ret
       refine ⟨?_, hB⟩
       rw [← Hb.out]
       refine (congrArg (fun z => Ending.returned (.bool z)) (decide_eq_false ?_).symm)
       clear Hb hB
       rintro ⟨q1, q2, q3, q4, q5, q6, q7, q8⟩
       first
         | omega
         | (simp_all; done)
         | (simp_all; omega))

end Go.Proofs.Ytbalpndgpdbcbaa

/-
  What the document's own answers for layer 6 come to: Read, where there is no packet.
-/
import Derived.Test.YtogjkkhboaflcaaPackR2
namespace Go.Proofs.Ytogjkkhboaflcaa
open Go.RowKit
set_option linter.unusedVariables false
set_option linter.unusedSimpArgs false

/-- What a call hands back: a packet, and the number of an error. -/
def GivesP (w : World) (p : Pk) (err : Nat) (e : Ending) (w' : World) : Prop :=
  ∃ A c B cb C cc, e = .returned (.tuple #[pkV p A p.hd.csrc.length c B p.ext.length cb C p.pay.length cc, .int .i64 err]) ∧ PkIn w' p A p.hd.csrc.length c B p.ext.length cb C p.pay.length cc ∧ Below w.heap.size w w'
theorem PkIn.zero (w : World) : PkIn w zeroP none 0 0 none 0 0 none 0 0 := ⟨Us.nil w, Bs.nil w, Bs.nil w⟩
/-- What stands in a packet's variable that is empty. -/
abbrev zeroCells : List Value := [.bool false, .bool false, .bool false, .int .i64 0, .int .u16 0, .int .u32 0, .int .u32 0, .slice none 0 0, .int .u16 0, .slice none 0 0, .slice none 0 0, .int .i64 0]

theorem rpread_long (A : Option Addr) (l c : Nat) (s : List UInt8) (w : World) (hs : Bs w A l c s) (hl : l ≤ 140737488355328) (h : 65535 < l) :
    Calls Try.prog 17 #[.slice A l c] w (GivesP w zeroP 4) := by
  go_enter Try.func17, Try.ntmps17
  go_wp2_with fail
  exact bodyPost_ret (v := .tuple #[pkV zeroP none 0 0 none 0 0 none 0 0, .int .i64 ((4 : Nat) : Int)]) (by simp [results, Try.results17, go_sem, pkV, zeroP, zeroH]) rfl ⟨none, 0, none, 0, none, 0, rfl, PkIn.zero _, below1 w _⟩

set_option maxRecDepth 100000 in
set_option maxHeartbeats 1000000 in
theorem rpread_head (A : Option Addr) (l c : Nat) (s : List UInt8) (w : World) (hs : Bs w A l c s) (hl : l ≤ 65535) (h : hErr s ≠ 0) :
    Calls Try.prog 17 #[.slice A l c] w (GivesP w zeroP (hErr s)) := by
  have hz : readH s = zeroH := if_neg h
  have hn : readN s = 0 := if_neg h
  have HW := Lib.hid (fun W hs => rhread_any A l c s W hs (by omega))
  rw [hz, hn] at HW
  clear hz hn
  have hne : ((hErr s : Int) != 0) = true := by rw [bne_iff_ne]; omega
  generalize hErr s = er at *
  have k1 := Box.new w zeroCells 45
  have hB := below1 w (.cells #[.bool false, .bool false, .bool false, .int .i64 0, .int .u16 0, .int .u32 0, .int .u32 0, .slice none 0 0, .int .u16 0, .slice none 0 0, .slice none 0 0, .int .i64 0] 45)
  go_enter Try.func17, Try.ntmps17
  go_wp2_with fail
  refine (HW.out _ (hs.alloc _)).mono ?_
  rintro x w2 ⟨B2, d2, rfl, hus, hb⟩
  dsimp only [hdV, zeroH, List.length_nil] at hus ⊢
  replace k1 := k1.call hb
  replace hB := hB.trans (hb.mono (by simp))
  have hsz := hB.size
  have k2 := k1.alloc (.cells #[.bool false, .bool false, .bool false, .int .i64 0, .int .u16 0, .int .u32 0, .int .u32 0, .slice B2 0 d2] 43)
  have hB2 := hB.alloc hsz (.cells #[.bool false, .bool false, .bool false, .int .i64 0, .int .u16 0, .int .u32 0, .int .u32 0, .slice B2 0 d2] 43)
  have ka := k2.all12.1
  have kf := k2.free12
  have KQ := Lib.hid (k2.put12 (.bool false) (.bool false) (.bool false) (.int .i64 0) (.int .u16 0) (.int .u32 0) (.int .u32 0) (.slice none 0 0) (.int .u16 0) (.slice none 0 0) (.slice none 0 0) (.int .i64 0))
  have HBq := Lib.hid (below_put12 hB2 (Nat.le_refl w.heap.size) (.bool false) (.bool false) (.bool false) (.int .i64 0) (.int .u16 0) (.int .u32 0) (.int .u32 0) (.slice none 0 0) (.int .u16 0) (.slice none 0 0) (.slice none 0 0) (.int .i64 0))
  go_wp2_with fail
  clear ka kf
  change bodyPost _ _ _ _ _ (put12 _ w.heap.size (.bool false) (.bool false) (.bool false) (.int .i64 0) (.int .u16 0) (.int .u32 0) (.int .u32 0) (.slice none 0 0) (.int .u16 0) (.slice none 0 0) (.slice none 0 0) (.int .i64 0))
  have kz := KQ.out.all12.1
  have hBq := HBq.out
  generalize put12 _ w.heap.size (.bool false) (.bool false) (.bool false) (.int .i64 0) (.int .u16 0) (.int .u32 0) (.int .u32 0) (.slice none 0 0) (.int .u16 0) (.slice none 0 0) (.slice none 0 0) (.int .i64 0) = wq at *
  exact bodyPost_ret (v := .tuple #[pkV zeroP none 0 0 none 0 0 none 0 0, .int .i64 (er : Int)]) (by simp [results, Try.results17, go_sem, pkV, zeroP, zeroH, *]) rfl ⟨none, 0, none, 0, none, 0, rfl, PkIn.zero _, hBq⟩

end Go.Proofs.Ytogjkkhboaflcaa

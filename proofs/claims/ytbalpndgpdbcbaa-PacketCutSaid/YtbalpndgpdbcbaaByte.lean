/-
  Bytes: what their type is, strings of them, bytes that are written out, and a number's next byte.
-/
import Derived.Test.YtbalpndgpdbcbaaProg
import Derived.Test.YtbalpndgpdbcbaaOctM
import Derived.Test.YtbalpndgpdbcbaaMem
import Derived.Test.YtbalpndgpdbcbaaInt
namespace Go.Proofs.Ytbalpndgpdbcbaa
open Go.RowKit

theorem str_of {w : World} {A : Option Addr} {n c : Nat} {s : List UInt8} (h : Bs w A n c s) : (convert 27 9 (.slice A n c)).run Try.prog w = .ok (.string ⟨s.toArray⟩) w :=
  run_string_of w _ _ _ Try.underlying27 Try.underlying5 Try.underlying9 h
/-- Bytes that were just written out. -/
theorem Bs.lit (w : World) (s : List UInt8) (hm : s.length ≤ maxLen) : Bs (w.alloc (.cells (s.map byteV).toArray 5)) (some ⟨w.heap.size, 0, none⟩) s.length s.length s := by
  have := Sl.lit w (s.map byteV) 5 (by simpa using hm)
  rwa [List.length_map] at this
theorem byte_info : (Try.prog.info? 5).map (fun i => (i.zero, i.size, i.bytes)) = some (some (.int .u8 0), 1, 1) := by kernel_rfl
theorem num_take (s : List UInt8) (a k : Nat) (h : a + k < s.length) : num ((s.drop a).take (k + 1)) = num ((s.drop a).take k) * 256 + (s.getD (a + k) 0).toNat := by
  have : (s.drop a).take (k + 1) = (s.drop a).take k ++ [s.getD (a + k) 0] := by
    rw [List.take_succ_eq_append_getElem (by simp; omega)]
    simp [List.getD, List.getElem?_eq_getElem h]
  rw [this, num_snoc]

end Go.Proofs.Ytbalpndgpdbcbaa

/-
  Bytes: how many cells one takes, and zero bytes that are made. (Cut out of the texts on layer 3.)
-/
import Derived.Test.YtbalpndgpdbcbaaByte
namespace Go.Proofs.Ytbalpndgpdbcbaa
open Go.RowKit

theorem byte_one : (Try.prog.info? 5).map (·.size) = some 1 := by kernel_rfl
theorem byte_size : ∀ w, (Go.sizeOf 5).run Try.prog w = .ok 1 w := run_size_one byte_info

/-- The cells of z zero bytes. -/
def zeroRow (z : Nat) : Array Value := ((List.replicate z (0 : UInt8)).map byteV).toArray
theorem make_zeros (z : Nat) (hz : z ≤ 281474976710656) (W : World) :
    (Instr.makeSlice 27 (.int .i64 (z : Int)) (.int .i64 (z : Int))).run Try.prog W = .ok (.slice (some ⟨W.heap.size, 0, none⟩) z z) (W.alloc (.cells (zeroRow z) 5)) := by
  obtain ⟨i0, hi0, hz0, hz1, hz2⟩ := info_parts byte_info
  have := run_make (P := Try.prog) W 27 5 i0 (.int .u8 0) Try.underlying27 hi0 hz0 .i64 .i64 z z (by omega) (by omega) (by rw [hz2]; omega) (by omega)
  rw [hz1, Int.toNat_natCast, show (Value.int IntKind.u8 0).cells = #[.int .u8 0] from rfl, Nat.mul_one] at this
  rw [this]
  unfold zeroRow
  congr 3
  apply Array.toList_inj.1
  rw [toList_madeCells_one]
  simp [byteV]

end Go.Proofs.Ytbalpndgpdbcbaa

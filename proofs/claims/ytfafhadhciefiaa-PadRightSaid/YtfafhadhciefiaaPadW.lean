/-
  The fixed answers that each statement of layer 3 begins with: 'awake' is true.
-/
import Derived.Test.YtfafhadhciefiaaPadR
namespace Go.Proofs.Ytfafhadhciefiaa
open Go.RowKit

theorem str_of {w : World} {A : Option Addr} {n c : Nat} {s : List UInt8} (h : Bs w A n c s) : (convert 22 9 (.slice A n c)).run Try.prog w = .ok (.string ⟨s.toArray⟩) w :=
  run_string_of w _ _ _ Try.underlying22 Try.underlying5 Try.underlying9 h
/-- Bytes that were just written out. -/
theorem Bs.lit (w : World) (s : List UInt8) (hm : s.length ≤ maxLen) : Bs (w.alloc (.cells (s.map byteV).toArray 5)) (some ⟨w.heap.size, 0, none⟩) s.length s.length s := by
  have := Sl.lit w (s.map byteV) 5 (by simpa using hm)
  rwa [List.length_map] at this
theorem add_lit (s : List UInt8) (n : Nat) (w : World) (hm : s.length ≤ 3000) (h1 : 1 ≤ n) (h2 : n ≤ 255) (r : List UInt8) (hr : addB s n = r) :
    Calls Try.prog 17 #[.slice (some ⟨w.heap.size, 0, none⟩) s.length s.length, .int .i64 n] (w.alloc (.cells (s.map byteV).toArray 5)) fun e w' => GivesBE w 5 r 0 e w' := by
  subst hr
  refine (add_yes _ _ _ s n _ (Bs.lit w s (by simp only [maxLen]; omega)) (by omega) h1 h2).mono ?_
  rintro e w' ⟨A, c, rfl, hown, hbel⟩
  exact ⟨A, c, rfl, hown.mono (by simp), ((Below.refl _ _).alloc (Nat.le_refl _) _).trans (hbel.mono (by simp))⟩

set_option maxRecDepth 100000 in
set_option maxHeartbeats 1000000 in
theorem awake_any (w : World) :
    Calls Try.prog 6 #[] w fun e w' => e = .returned (.bool true) ∧ Below w.heap.size w w' := by
  go_enter Try.func6, Try.ntmps6
  go_wp2_with fail
  refine (add_lit [7, 8] 3 w (by simp) (by omega) (by omega) [7, 8, 0, 0, 3] (by decide)).mono ?_
  rintro e w1 ⟨A1, c1, rfl, hown1, hb1⟩
  have hs1 := hown1.bs
  have T := trail_any A1 _ c1 _ w1 hs1
  rw [show trailN [7, 8, 0, 0, 3] = 3 from by decide, show trailE [7, 8, 0, 0, 3] = 0 from by decide] at T
  have C := clean_any A1 _ c1 _ w1 hs1
  rw [show cleanB [7, 8, 0, 0, 3] = true from by decide] at C
  have t1 : (convert 22 9 (.slice A1 5 c1)).run Try.prog w1 = .ok (.string ⟨#[7, 8, 0, 0, 3]⟩) w1 := str_of hs1
  have HT := Lib.hid T
  have HC := Lib.hid C
  clear T C hown1
  obtain ⟨A2, c2, hsl2, hB2⟩ := hs1.slice_r Try.underlying22 byte_size (r := 1) (by simp)
  obtain ⟨A3, c3, hsl3, hB3⟩ := hs1.slice_lr Try.underlying22 byte_size (a := 2) (r := 4) (by omega) (by simp)
  have e2 : ∀ W, (Instr.slice 22 (.slice A1 5 c1) none (some (.int .i64 1)) none).run Try.prog W = .ok (.slice A2 1 c2) W := fun W => hsl2 W 1 rfl
  have e3 : ∀ W, (Instr.slice 22 (.slice A1 5 c1) (some (.int .i64 2)) (some (.int .i64 4)) none).run Try.prog W = .ok (.slice A3 2 c3) W := fun W => hsl3 W 2 4 rfl rfl
  have hB2' : Bs w1 A2 1 c2 [7] := hB2
  have hB3' : Bs w1 A3 2 c3 [0, 0] := hB3
  clear hsl2 hsl3 hB2 hB3
  go_wp2_with fail
  refine (HT.out).mono ?_
  rintro e w2 ⟨rfl, rfl⟩
  go_wp2_with fail
  refine (HC.out).mono ?_
  rintro e w2 ⟨rfl, rfl⟩
  go_wp2_with fail
  refine (round_any 5 _).mono ?_
  rintro e w2 ⟨rfl, rfl⟩
  rw [show roundN 5 = 8 from by decide]
  go_wp2_with fail
  refine (fill_any A2 1 c2 [7] _ hB2' (by omega)).mono ?_
  rintro e w2 ⟨A4, c4, rfl, hown4, hb4⟩
  rw [show fillB [7] = [7, 0, 0, 0] from by decide] at *
  have t4 : (convert 22 9 (.slice A4 4 c4)).run Try.prog w2 = .ok (.string ⟨#[7, 0, 0, 0]⟩) w2 := str_of hown4.bs
  have hB3n := hB3'.below hb4
  go_wp2_with fail
  refine (zero_any A3 2 c3 [0, 0] _ hB3n).mono ?_
  rintro e w3 ⟨rfl, rfl⟩
  rw [show zeroB [0, 0] = true from by decide]
  go_wp2
  go_ret
  exact ⟨rfl, hb1.trans (hb4.mono hb1.size)⟩

end Go.Proofs.Ytfafhadhciefiaa

/-
  What the small functions of package bits come to: isReader, isSize, isRange, fail, Start, Left, size.
-/
import Derived.Test.YthkngjokbkfebaaProg
import Derived.Test.YthkngjokbkfebaaBitM
import Derived.Test.YthkngjokbkfebaaMem
import Derived.Test.YthkngjokbkfebaaBox
import Derived.Test.YthkngjokbkfebaaInt
import Derived.Deep.QuietTactic
import Derived.BigQuiet
namespace Go.Proofs.Ythkngjokbkfebaa
open Go.RowKit

theorem readerB_yes {l : Nat} {a err : Int} (h : readerB l a err = true) : err = 0 ∧ 0 ≤ a ∧ a ≤ 8 * (l : Int) := by simpa [readerB] using h
theorem readerB_mk {l : Nat} {a err : Int} (h0 : err = 0) (h1 : 0 ≤ a) (h2 : a ≤ 8 * (l : Int)) : readerB l a err = true := by simp [readerB, h0, h1, h2]

theorem bisSize_any (n : Int) (w : World) :
    Calls Try.prog 25 #[.int .i64 n] w fun e w' => e = .returned (.bool (decide (0 ≤ n ∧ n ≤ 64))) ∧ w = w' := by
  by_cases h1 : 0 ≤ n <;> by_cases h2 : n ≤ 64
  all_goals
    go_enter Try.func25, Try.ntmps25
    go_wp2
    go_ret
    exact ⟨by simp [h1, h2], rfl⟩

theorem isRange_any (n : Nat) (w : World) :
    Calls Try.prog 30 #[.int .u64 n] w fun e w' => e = .returned (.bool (decide (1 ≤ n ∧ n ≤ 4294967296))) ∧ w = w' := by
  obtain ⟨q, hq⟩ : ∃ q, q = decide (1 ≤ n ∧ n ≤ 4294967296) := ⟨_, rfl⟩
  rw [← hq]
  by_cases h1 : (1 : Int) ≤ n <;> by_cases h2 : (n : Int) ≤ 4294967296
  all_goals
    have hq2 : q = (decide ((1 : Int) ≤ n) && decide ((n : Int) ≤ 4294967296)) := by rw [hq, Bool.eq_iff_iff]; simp; omega
    simp only [h1, h2, decide_true, decide_false, Bool.and_true, Bool.and_false] at hq2
    clear hq
    subst hq2
    go_enter Try.func30, Try.ntmps30
    go_wp2
    go_ret
    exact ⟨rfl, rfl⟩

set_option maxHeartbeats 400000 in
theorem isReader_any (A : Option Addr) (l c : Nat) (a err : Int) (w : World) (hl : l ≤ 140737488355328) :
    Calls Try.prog 24 #[.agg #[.slice A l c, .int .i64 a, .int .i64 err]] w fun e w' => e = .returned (.bool (readerB l a err)) ∧ Below w.heap.size w w' := by
  by_cases h0 : err = 0
  · subst h0
    by_cases h1 : 0 ≤ a
    · by_cases h2 : a ≤ 8 * (l : Int)
      · rw [readerB_mk rfl h1 h2]
        go_enter Try.func24, Try.ntmps24
        go_wp2
        go_ret
        exact ⟨rfl, (Below.refl _ _).alloc (Nat.le_refl _) _⟩
      · have hf : readerB l a 0 = false := by simp [readerB, h2]
        rw [hf]
        go_enter Try.func24, Try.ntmps24
        go_wp2
        go_ret
        exact ⟨rfl, (Below.refl _ _).alloc (Nat.le_refl _) _⟩
    · have hf : readerB l a 0 = false := by simp [readerB, h1]
      rw [hf]
      go_enter Try.func24, Try.ntmps24
      go_wp2
      go_ret
      exact ⟨rfl, (Below.refl _ _).alloc (Nat.le_refl _) _⟩
  · have hf : readerB l a err = false := by simp [readerB, h0]
    have hz : (err == 0) = false := by simpa using h0
    rw [hf]
    clear hf
    go_enter Try.func24, Try.ntmps24
    go_wp2
    go_ret
    exact ⟨rfl, (Below.refl _ _).alloc (Nat.le_refl _) _⟩

/-- Two boxes of three cells, behind a call. -/
theorem cells33 {w w1 : World} {x y z x' y' z' : Value} {t t' : TypeId} (hb : Below ((w.alloc (.cells #[x, y, z] t)).alloc (.cells #[x', y', z'] t')).heap.size ((w.alloc (.cells #[x, y, z] t)).alloc (.cells #[x', y', z'] t')) w1) :
    w1.cell? ⟨w.heap.size, 0, none⟩ = some x ∧ w1.cell? ⟨w.heap.size, 1, none⟩ = some y ∧ w1.cell? ⟨w.heap.size, 2, none⟩ = some z ∧
    w1.cell? ⟨w.heap.size + 1, 0, none⟩ = some x' ∧ w1.cell? ⟨w.heap.size + 1, 1, none⟩ = some y' ∧ w1.cell? ⟨w.heap.size + 1, 2, none⟩ = some z' ∧
    (∀ b o, b < w.heap.size + 2 → w.heap.size ≤ b → w1.frozen? ⟨b, o, none⟩ = false) ∧ w.heap.size + 1 < w1.heap.size := by
  obtain ⟨hc, hf⟩ := bcell hb
  have hz := hb.size
  simp only [World.size_alloc] at hz hc hf
  refine ⟨?_, ?_, ?_, ?_, ?_, ?_, ?_, by omega⟩
  · rw [hc _ _ (by omega)]; simp [go_sem]
  · rw [hc _ _ (by omega)]; simp [go_sem]
  · rw [hc _ _ (by omega)]; simp [go_sem]
  · rw [hc _ _ (by omega)]; simp [go_sem]
  · rw [hc _ _ (by omega)]; simp [go_sem]
  · rw [hc _ _ (by omega)]; simp [go_sem]
  · intro b o h1 h2
    rw [hf _ _ (by omega)]
    have : b = w.heap.size ∨ b = w.heap.size + 1 := by omega
    rcases this with rfl | rfl <;> simp [go_sem]

theorem bfail_any (A : Option Addr) (l c : Nat) (a err er : Int) (w : World) :
    Calls Try.prog 26 #[.agg #[.slice A l c, .int .i64 a, .int .i64 err], .int .i64 er] w (Says w (.agg #[.slice A l c, .int .i64 a, .int .i64 (if err = 0 then er else err)])) := by
  by_cases h0 : err = 0
  · subst h0
    rw [if_pos rfl]
    go_enter Try.func26, Try.ntmps26
    go_wp2
    refine bodyPost_ret (v := .agg #[.slice A l c, .int .i64 a, .int .i64 er]) (by simp [results, Try.results26, go_sem]) rfl ⟨rfl, ?_⟩
    exact below2 _ _ _
  · have hz : (err == 0) = false := by simpa using h0
    rw [if_neg h0]
    go_enter Try.func26, Try.ntmps26
    go_wp2
    refine bodyPost_ret (v := .agg #[.slice A l c, .int .i64 a, .int .i64 err]) (by simp [results, Try.results26, go_sem]) rfl ⟨rfl, ?_⟩
    exact below2 _ _ _

theorem size_any (n : Nat) (w : World) (hn : n ≤ 9223372036854775807) :
    Calls Try.prog 33 #[.int .i64 n] w fun e w' => e = .returned (.int .i64 (((n + 7) / 8 : Nat) : Int)) ∧ w = w' := by
  go_enter Try.func33, Try.ntmps33
  go_wp2
  go_ret
  refine ⟨?_, rfl⟩
  have e : (n : Int) / 8 + ((n : Int) % 8 + 7) / 8 = (((n + 7) / 8 : Nat) : Int) := by omega
  rw [← e]
  rfl

theorem isReader_is (A : Option Addr) (l c : Nat) (a err : Int) (w : World) (hl : l ≤ 140737488355328) (q : Bool) (hq : readerB l a err = q) :
    Calls Try.prog 24 #[.agg #[.slice A l c, .int .i64 a, .int .i64 err]] w (Says w (.bool q)) := by
  subst hq
  exact isReader_any A l c a err w hl
theorem bisSize_is (n : Int) (w : World) (q : Bool) (hq : decide (0 ≤ n ∧ n ≤ 64) = q) :
    Calls Try.prog 25 #[.int .i64 n] w fun e w' => e = .returned (.bool q) ∧ w = w' := by
  subst hq
  exact bisSize_any n w
theorem isRange_is (n : Nat) (w : World) (q : Bool) (hq : decide (1 ≤ n ∧ n ≤ 4294967296) = q) :
    Calls Try.prog 30 #[.int .u64 n] w fun e w' => e = .returned (.bool q) ∧ w = w' := by
  subst hq
  exact isRange_any n w

theorem left_any (A : Option Addr) (l c : Nat) (a err : Int) (w : World) (hl : l ≤ 140737488355328) :
    Calls Try.prog 11 #[.agg #[.slice A l c, .int .i64 a, .int .i64 err]] w (Says w (.int .i64 (if readerB l a err = true then 8 * (l : Int) - a else 0))) := by
  by_cases h : readerB l a err = true
  · obtain ⟨h0, h1, h2⟩ := readerB_yes h
    rw [if_pos h]
    have H := Lib.hid h
    have H0 := Lib.hid h0
    clear h h0
    go_enter Try.func11, Try.ntmps11
    go_wp2_with fail
    refine (isReader_is _ _ _ _ _ _ hl true H.out).mono ?_
    rintro e w1 ⟨rfl, hb⟩
    have hb1 := (below1 w _).trans (hb.mono (by simp))
    obtain ⟨hc, hf⟩ := bcell hb
    clear hb
    go_wp2
    go_ret
    exact ⟨rfl, hb1⟩
  · have hf : readerB l a err = false := by simpa using h
    rw [if_neg h]
    have H := Lib.hid hf
    clear h hf
    go_enter Try.func11, Try.ntmps11
    go_wp2_with fail
    refine (isReader_is _ _ _ _ _ _ hl false H.out).mono ?_
    rintro e w1 ⟨rfl, hb⟩
    have hb1 := (below1 w _).trans (hb.mono (by simp))
    obtain ⟨hc, hf⟩ := bcell hb
    clear hb
    go_wp2
    go_ret
    exact ⟨rfl, hb1⟩

theorem start_any (A : Option Addr) (l c : Nat) (w : World) :
    Calls Try.prog 23 #[.slice A l c] w (Says w (.agg #[.slice A l c, .int .i64 0, .int .i64 0])) := by
  go_enter Try.func23, Try.ntmps23
  go_wp2
  refine bodyPost_ret (v := .agg #[.slice A l c, .int .i64 0, .int .i64 0]) (by simp [results, Try.results23, go_sem]) rfl ⟨rfl, ?_⟩
  exact below1 _ _

end Go.Proofs.Ythkngjokbkfebaa

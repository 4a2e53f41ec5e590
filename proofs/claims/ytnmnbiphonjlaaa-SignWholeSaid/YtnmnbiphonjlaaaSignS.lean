/-
  What the document's own answers for layer 9 come to: Read. (Written by gen_SignS.py.)
-/
import Derived.Test.YtnmnbiphonjlaaaSignR
namespace Go.Proofs.Ytnmnbiphonjlaaa
open Go.RowKit
set_option linter.unusedVariables false
set_option linter.unusedSimpArgs false

set_option maxRecDepth 100000 in
set_option maxHeartbeats 2000000 in
theorem rsread_kind (A : Option Addr) (n c : Nat) (s : List UInt8) (w : World) (hs : Bs w A n c s) (k : Int) (h : k < 1 ∨ 6 < k) :
    Calls Try.prog 11 #[.int .i64 k, .slice A n c] w (Says w (.tuple #[sgV zeroSg, .int .i64 1])) := by
  rcases (show k < 1 ∨ (1 ≤ k ∧ 6 < k) by omega) with h1 | ⟨h0, h1⟩
  all_goals
    clear h
    go_enter Try.func11, Try.ntmps11
    go_wp2_with fail
    exact bodyPost_ret (v := .tuple #[sgV zeroSg, .int .i64 1]) (by simp [results, Try.results11, go_sem, zeroSg, *]) rfl ⟨rfl, (by first | exact below1 _ _ | exact below2 _ _ _ | exact below3 _ _ _ _)⟩
set_option maxRecDepth 100000 in
set_option maxHeartbeats 2000000 in
theorem rsread_len1 (A : Option Addr) (n c : Nat) (s : List UInt8) (w : World) (hs : Bs w A n c s) (h : n < 1 ∨ 16 < n) :
    Calls Try.prog 11 #[.int .i64 1, .slice A n c] w (Says w (.tuple #[sgV zeroSg, .int .i64 4])) := by
  have hb1 := hs.le
  have hb2 := hs.cap
  unfold maxLen at hb2
  rcases h with h | h
  · obtain rfl : n = 0 := by omega
    go_enter Try.func11, Try.ntmps11
    go_wp2_with fail
    exact bodyPost_ret (v := .tuple #[sgV zeroSg, .int .i64 4]) (by simp [results, Try.results11, go_sem, zeroSg, *]) rfl ⟨rfl, (by first | exact below1 _ _ | exact below2 _ _ _ | exact below3 _ _ _ _)⟩
  · have g1 : decide (16 < n) = true := decide_eq_true (by omega)
    have g2 : decide (n < 1) = false := decide_eq_false (by omega)
    have g3 : (16 : Int) < n := by omega
    have g4 : ¬ (n : Int) < 1 := by omega
    go_enter Try.func11, Try.ntmps11
    go_wp2_with fail
    exact bodyPost_ret (v := .tuple #[sgV zeroSg, .int .i64 4]) (by simp [results, Try.results11, go_sem, zeroSg, *]) rfl ⟨rfl, (by first | exact below1 _ _ | exact below2 _ _ _ | exact below3 _ _ _ _)⟩
set_option maxRecDepth 100000 in
set_option maxHeartbeats 2000000 in
theorem rsread_len2 (A : Option Addr) (n c : Nat) (s : List UInt8) (w : World) (hs : Bs w A n c s) (h : n < 1 ∨ 16 < n) :
    Calls Try.prog 11 #[.int .i64 2, .slice A n c] w (Says w (.tuple #[sgV zeroSg, .int .i64 4])) := by
  have hb1 := hs.le
  have hb2 := hs.cap
  unfold maxLen at hb2
  rcases h with h | h
  · obtain rfl : n = 0 := by omega
    go_enter Try.func11, Try.ntmps11
    go_wp2_with fail
    exact bodyPost_ret (v := .tuple #[sgV zeroSg, .int .i64 4]) (by simp [results, Try.results11, go_sem, zeroSg, *]) rfl ⟨rfl, (by first | exact below1 _ _ | exact below2 _ _ _ | exact below3 _ _ _ _)⟩
  · have g1 : decide (16 < n) = true := decide_eq_true (by omega)
    have g2 : decide (n < 1) = false := decide_eq_false (by omega)
    have g3 : (16 : Int) < n := by omega
    have g4 : ¬ (n : Int) < 1 := by omega
    go_enter Try.func11, Try.ntmps11
    go_wp2_with fail
    exact bodyPost_ret (v := .tuple #[sgV zeroSg, .int .i64 4]) (by simp [results, Try.results11, go_sem, zeroSg, *]) rfl ⟨rfl, (by first | exact below1 _ _ | exact below2 _ _ _ | exact below3 _ _ _ _)⟩
set_option maxRecDepth 100000 in
set_option maxHeartbeats 2000000 in
theorem rsread_len3 (A : Option Addr) (n c : Nat) (s : List UInt8) (w : World) (hs : Bs w A n c s) (h : n ≠ 3) :
    Calls Try.prog 11 #[.int .i64 3, .slice A n c] w (Says w (.tuple #[sgV zeroSg, .int .i64 4])) := by
  have hb1 := hs.le
  have hb2 := hs.cap
  unfold maxLen at hb2
  have g1 : ((n : Int) != 3) = true := by rw [bne_iff_ne]; omega
  go_enter Try.func11, Try.ntmps11
  go_wp2_with fail
  exact bodyPost_ret (v := .tuple #[sgV zeroSg, .int .i64 4]) (by simp [results, Try.results11, go_sem, zeroSg, *]) rfl ⟨rfl, (by first | exact below1 _ _ | exact below2 _ _ _ | exact below3 _ _ _ _)⟩
set_option maxRecDepth 100000 in
set_option maxHeartbeats 2000000 in
theorem rsread_len4 (A : Option Addr) (n c : Nat) (s : List UInt8) (w : World) (hs : Bs w A n c s) (h : n ≠ 1) :
    Calls Try.prog 11 #[.int .i64 4, .slice A n c] w (Says w (.tuple #[sgV zeroSg, .int .i64 4])) := by
  have hb1 := hs.le
  have hb2 := hs.cap
  unfold maxLen at hb2
  have g1 : ((n : Int) != 1) = true := by rw [bne_iff_ne]; omega
  go_enter Try.func11, Try.ntmps11
  go_wp2_with fail
  exact bodyPost_ret (v := .tuple #[sgV zeroSg, .int .i64 4]) (by simp [results, Try.results11, go_sem, zeroSg, *]) rfl ⟨rfl, (by first | exact below1 _ _ | exact below2 _ _ _ | exact below3 _ _ _ _)⟩
set_option maxRecDepth 100000 in
set_option maxHeartbeats 2000000 in
theorem rsread_len5 (A : Option Addr) (n c : Nat) (s : List UInt8) (w : World) (hs : Bs w A n c s) (h : n ≠ 2) :
    Calls Try.prog 11 #[.int .i64 5, .slice A n c] w (Says w (.tuple #[sgV zeroSg, .int .i64 4])) := by
  have hb1 := hs.le
  have hb2 := hs.cap
  unfold maxLen at hb2
  have g1 : ((n : Int) != 2) = true := by rw [bne_iff_ne]; omega
  go_enter Try.func11, Try.ntmps11
  go_wp2_with fail
  exact bodyPost_ret (v := .tuple #[sgV zeroSg, .int .i64 4]) (by simp [results, Try.results11, go_sem, zeroSg, *]) rfl ⟨rfl, (by first | exact below1 _ _ | exact below2 _ _ _ | exact below3 _ _ _ _)⟩
set_option maxRecDepth 100000 in
set_option maxHeartbeats 2000000 in
theorem rsread_len6 (A : Option Addr) (n c : Nat) (s : List UInt8) (w : World) (hs : Bs w A n c s) (h : n ≠ 1) :
    Calls Try.prog 11 #[.int .i64 6, .slice A n c] w (Says w (.tuple #[sgV zeroSg, .int .i64 4])) := by
  have hb1 := hs.le
  have hb2 := hs.cap
  unfold maxLen at hb2
  have g1 : ((n : Int) != 1) = true := by rw [bne_iff_ne]; omega
  go_enter Try.func11, Try.ntmps11
  go_wp2_with fail
  exact bodyPost_ret (v := .tuple #[sgV zeroSg, .int .i64 4]) (by simp [results, Try.results11, go_sem, zeroSg, *]) rfl ⟨rfl, (by first | exact below1 _ _ | exact below2 _ _ _ | exact below3 _ _ _ _)⟩
set_option maxRecDepth 100000 in
set_option maxHeartbeats 2000000 in
theorem rsread_tok1n (A : Option Addr) (n c : Nat) (s : List UInt8) (w : World) (hs : Bs w A n c s) (h1 : 1 ≤ n) (h2 : n ≤ 16) (ht : tokenB s = false) :
    Calls Try.prog 11 #[.int .i64 1, .slice A n c] w (Says w (.tuple #[sgV zeroSg, .int .i64 6])) := by
  have hl := hs.len
  have t1 := str_of (((hs.alloc (.cells #[.int .i64 0, .string ⟨#[]⟩, .int .u32 0, .bool false, .bool false, .int .i64 0] 24)).alloc (.cells #[.int .i64 0, .int .i64 n, .int .i64 n, .int .i64 3, .int .i64 1, .int .i64 2, .int .i64 1] 3)).alloc (.cells #[.int .i64 1, .string ⟨#[]⟩, .int .u32 0, .bool false, .bool false, .int .i64 0] 24))
  have HT := Lib.hid (rtoken_any ⟨s.toArray⟩)
  have e1 : (⟨s.toArray⟩ : ByteArray).data.toList = s := by simp
  rw [e1, ht] at HT
  have hsz : (⟨s.toArray⟩ : ByteArray).size ≤ 140737488355328 := by show s.toArray.size ≤ _; simp; omega
  have g1 : decide (16 < n) = false := decide_eq_false (by omega)
  have g2 : decide (n < 1) = false := decide_eq_false (by omega)
  have g3 : ¬ (16 : Int) < n := by omega
  have g4 : ¬ (n : Int) < 1 := by omega
  clear e1 ht hl
  generalize (⟨s.toArray⟩ : ByteArray) = x at *
  go_enter Try.func11, Try.ntmps11
  go_wp2_with fail
  refine (HT.out _ hsz).mono ?_
  rintro e w2 ⟨rfl, rfl⟩
  go_wp2_with fail
  exact bodyPost_ret (v := .tuple #[sgV zeroSg, .int .i64 6]) (by simp [results, Try.results11, go_sem, zeroSg, *]) rfl ⟨rfl, (by first | exact below1 _ _ | exact below2 _ _ _ | exact below3 _ _ _ _)⟩
set_option maxRecDepth 100000 in
set_option maxHeartbeats 2000000 in
theorem rsread_tok1y (A : Option Addr) (n c : Nat) (s : List UInt8) (w : World) (hs : Bs w A n c s) (h1 : 1 ≤ n) (h2 : n ≤ 16) (ht : tokenB s = true) :
    Calls Try.prog 11 #[.int .i64 1, .slice A n c] w (Says w (.tuple #[sgV ⟨1, ⟨s.toArray⟩, 0, false, false, 0⟩, .int .i64 0])) := by
  have hl := hs.len
  have t1 := str_of (((hs.alloc (.cells #[.int .i64 0, .string ⟨#[]⟩, .int .u32 0, .bool false, .bool false, .int .i64 0] 24)).alloc (.cells #[.int .i64 0, .int .i64 n, .int .i64 n, .int .i64 3, .int .i64 1, .int .i64 2, .int .i64 1] 3)).alloc (.cells #[.int .i64 1, .string ⟨#[]⟩, .int .u32 0, .bool false, .bool false, .int .i64 0] 24))
  have HT := Lib.hid (rtoken_any ⟨s.toArray⟩)
  have e1 : (⟨s.toArray⟩ : ByteArray).data.toList = s := by simp
  rw [e1, ht] at HT
  have hsz : (⟨s.toArray⟩ : ByteArray).size ≤ 140737488355328 := by show s.toArray.size ≤ _; simp; omega
  have g1 : decide (16 < n) = false := decide_eq_false (by omega)
  have g2 : decide (n < 1) = false := decide_eq_false (by omega)
  have g3 : ¬ (16 : Int) < n := by omega
  have g4 : ¬ (n : Int) < 1 := by omega
  clear e1 ht hl
  generalize (⟨s.toArray⟩ : ByteArray) = x at *
  go_enter Try.func11, Try.ntmps11
  go_wp2_with fail
  refine (HT.out _ hsz).mono ?_
  rintro e w2 ⟨rfl, rfl⟩
  go_wp2_with fail
  exact bodyPost_ret (v := .tuple #[sgV ⟨1, x, 0, false, false, 0⟩, .int .i64 0]) (by simp [results, Try.results11, go_sem, zeroSg, *]) rfl ⟨rfl, (by first | exact below1 _ _ | exact below2 _ _ _ | exact below3 _ _ _ _)⟩
set_option maxRecDepth 100000 in
set_option maxHeartbeats 2000000 in
theorem rsread_tok2n (A : Option Addr) (n c : Nat) (s : List UInt8) (w : World) (hs : Bs w A n c s) (h1 : 1 ≤ n) (h2 : n ≤ 16) (ht : tokenB s = false) :
    Calls Try.prog 11 #[.int .i64 2, .slice A n c] w (Says w (.tuple #[sgV zeroSg, .int .i64 6])) := by
  have hl := hs.len
  have t1 := str_of (((hs.alloc (.cells #[.int .i64 0, .string ⟨#[]⟩, .int .u32 0, .bool false, .bool false, .int .i64 0] 24)).alloc (.cells #[.int .i64 0, .int .i64 n, .int .i64 n, .int .i64 3, .int .i64 1, .int .i64 2, .int .i64 1] 3)).alloc (.cells #[.int .i64 2, .string ⟨#[]⟩, .int .u32 0, .bool false, .bool false, .int .i64 0] 24))
  have HT := Lib.hid (rtoken_any ⟨s.toArray⟩)
  have e1 : (⟨s.toArray⟩ : ByteArray).data.toList = s := by simp
  rw [e1, ht] at HT
  have hsz : (⟨s.toArray⟩ : ByteArray).size ≤ 140737488355328 := by show s.toArray.size ≤ _; simp; omega
  have g1 : decide (16 < n) = false := decide_eq_false (by omega)
  have g2 : decide (n < 1) = false := decide_eq_false (by omega)
  have g3 : ¬ (16 : Int) < n := by omega
  have g4 : ¬ (n : Int) < 1 := by omega
  clear e1 ht hl
  generalize (⟨s.toArray⟩ : ByteArray) = x at *
  go_enter Try.func11, Try.ntmps11
  go_wp2_with fail
  refine (HT.out _ hsz).mono ?_
  rintro e w2 ⟨rfl, rfl⟩
  go_wp2_with fail
  exact bodyPost_ret (v := .tuple #[sgV zeroSg, .int .i64 6]) (by simp [results, Try.results11, go_sem, zeroSg, *]) rfl ⟨rfl, (by first | exact below1 _ _ | exact below2 _ _ _ | exact below3 _ _ _ _)⟩
set_option maxRecDepth 100000 in
set_option maxHeartbeats 2000000 in
theorem rsread_tok2y (A : Option Addr) (n c : Nat) (s : List UInt8) (w : World) (hs : Bs w A n c s) (h1 : 1 ≤ n) (h2 : n ≤ 16) (ht : tokenB s = true) :
    Calls Try.prog 11 #[.int .i64 2, .slice A n c] w (Says w (.tuple #[sgV ⟨2, ⟨s.toArray⟩, 0, false, false, 0⟩, .int .i64 0])) := by
  have hl := hs.len
  have t1 := str_of (((hs.alloc (.cells #[.int .i64 0, .string ⟨#[]⟩, .int .u32 0, .bool false, .bool false, .int .i64 0] 24)).alloc (.cells #[.int .i64 0, .int .i64 n, .int .i64 n, .int .i64 3, .int .i64 1, .int .i64 2, .int .i64 1] 3)).alloc (.cells #[.int .i64 2, .string ⟨#[]⟩, .int .u32 0, .bool false, .bool false, .int .i64 0] 24))
  have HT := Lib.hid (rtoken_any ⟨s.toArray⟩)
  have e1 : (⟨s.toArray⟩ : ByteArray).data.toList = s := by simp
  rw [e1, ht] at HT
  have hsz : (⟨s.toArray⟩ : ByteArray).size ≤ 140737488355328 := by show s.toArray.size ≤ _; simp; omega
  have g1 : decide (16 < n) = false := decide_eq_false (by omega)
  have g2 : decide (n < 1) = false := decide_eq_false (by omega)
  have g3 : ¬ (16 : Int) < n := by omega
  have g4 : ¬ (n : Int) < 1 := by omega
  clear e1 ht hl
  generalize (⟨s.toArray⟩ : ByteArray) = x at *
  go_enter Try.func11, Try.ntmps11
  go_wp2_with fail
  refine (HT.out _ hsz).mono ?_
  rintro e w2 ⟨rfl, rfl⟩
  go_wp2_with fail
  exact bodyPost_ret (v := .tuple #[sgV ⟨2, x, 0, false, false, 0⟩, .int .i64 0]) (by simp [results, Try.results11, go_sem, zeroSg, *]) rfl ⟨rfl, (by first | exact below1 _ _ | exact below2 _ _ _ | exact below3 _ _ _ _)⟩
set_option maxRecDepth 100000 in
set_option maxHeartbeats 2000000 in
theorem rsread_num3 (A : Option Addr) (n c : Nat) (s : List UInt8) (w : World) (hs : Bs w A n c s) (h : n = 3) :
    Calls Try.prog 11 #[.int .i64 3, .slice A n c] w (Says w (.tuple #[sgV ⟨3, ⟨#[]⟩, num s, false, false, 0⟩, .int .i64 0])) := by
  subst h
  have HG := Lib.hid (fun W hs => rget_yes A 3 c s 0 3 W hs (by omega) (by omega) (by omega))
  have hn := num_lt (s.take 3)
  have hl := hs.len
  rw [List.take_of_length_le (by omega), hl] at hn
  have e3 : (256 : Nat) ^ 3 = 16777216 := rfl
  rw [e3] at hn
  have e0 : num ((s.drop 0).take 3) = num s := by rw [List.drop_zero, List.take_of_length_le (by omega)]
  rw [e0] at HG
  obtain ⟨v, hv⟩ : ∃ v : Int, (num s : Int) = v := ⟨_, rfl⟩
  have hv0 : 0 ≤ v ∧ v < 16777216 := by omega
  dsimp only [sgV]
  rw [hv] at HG ⊢
  clear hn e0 hl e3 hv
  go_enter Try.func11, Try.ntmps11
  go_wp2_with fail
  refine (HG.out _ (((hs.alloc _).alloc _).alloc _)).mono ?_
  rintro e w2 ⟨rfl, rfl⟩
  go_wp2_with fail
  exact bodyPost_ret (v := .tuple #[.agg #[.int .i64 3, .string ⟨#[]⟩, .int .u32 v, .bool false, .bool false, .int .i64 0], .int .i64 0]) (by simp [results, Try.results11, go_sem, *]) rfl ⟨rfl, below3 _ _ _ _⟩
set_option maxRecDepth 100000 in
set_option maxHeartbeats 2000000 in
theorem rsread_num5 (A : Option Addr) (n c : Nat) (s : List UInt8) (w : World) (hs : Bs w A n c s) (h : n = 2) :
    Calls Try.prog 11 #[.int .i64 5, .slice A n c] w (Says w (.tuple #[sgV ⟨5, ⟨#[]⟩, num s, false, false, 0⟩, .int .i64 0])) := by
  subst h
  have HG := Lib.hid (fun W hs => rget_yes A 2 c s 0 2 W hs (by omega) (by omega) (by omega))
  have hn := num_lt (s.take 2)
  have hl := hs.len
  rw [List.take_of_length_le (by omega), hl] at hn
  have e3 : (256 : Nat) ^ 2 = 65536 := rfl
  rw [e3] at hn
  have e0 : num ((s.drop 0).take 2) = num s := by rw [List.drop_zero, List.take_of_length_le (by omega)]
  rw [e0] at HG
  obtain ⟨v, hv⟩ : ∃ v : Int, (num s : Int) = v := ⟨_, rfl⟩
  have hv0 : 0 ≤ v ∧ v < 65536 := by omega
  dsimp only [sgV]
  rw [hv] at HG ⊢
  clear hn e0 hl e3 hv
  go_enter Try.func11, Try.ntmps11
  go_wp2_with fail
  refine (HG.out _ (((hs.alloc _).alloc _).alloc _)).mono ?_
  rintro e w2 ⟨rfl, rfl⟩
  go_wp2_with fail
  exact bodyPost_ret (v := .tuple #[.agg #[.int .i64 5, .string ⟨#[]⟩, .int .u32 v, .bool false, .bool false, .int .i64 0], .int .i64 0]) (by simp [results, Try.results11, go_sem, *]) rfl ⟨rfl, below3 _ _ _ _⟩
set_option maxRecDepth 100000 in
set_option maxHeartbeats 2000000 in
theorem rsread_4 (A : Option Addr) (n c : Nat) (s : List UInt8) (w : World) (hs : Bs w A n c s) (h : n = 1) :
    Calls Try.prog 11 #[.int .i64 4, .slice A n c] w (Says w (.tuple #[sgV ⟨4, ⟨#[]⟩, bt s 0 % 128, decide (128 ≤ bt s 0), false, 0⟩, .int .i64 0])) := by
  subst h
  obtain ⟨b, off, rfl, hlt, hc⟩ := hs.at_ (by omega)
  have hc0 := hc 0 (by omega)
  have hb := bt_lt s 0
  change w.cell? ⟨b, off + 0, none⟩ = some (.int .u8 ((bt s 0 : Nat) : Int)) at hc0
  rw [Nat.add_zero] at hc0
  generalize bt s 0 = x at *
  have hcc : ∀ o1 o2 o3, (((w.alloc o1).alloc o2).alloc o3).cell? ⟨b, off, none⟩ = some (.int .u8 ((x : Nat) : Int)) := fun o1 o2 o3 => by
    rw [World.cell?_alloc_past _ _ _ (by simp; omega), World.cell?_alloc_past _ _ _ (by simp; omega), World.cell?_alloc_past _ _ _ hlt]
    exact hc0
  clear hc hs
  have hm : ((x : Nat) : Int).tmod 128 = ((x % 128 : Nat) : Int) := by rw [Int.tmod_eq_emod_of_nonneg (by omega)]; omega
  obtain ⟨y, hy, hy2⟩ : ∃ y, x % 128 = y ∧ y < 128 := ⟨_, rfl, by omega⟩
  rw [hy] at hm ⊢
  have q1 : decide ((128 : Int) ≤ (x : Int)) = decide (128 ≤ x) := by rw [decide_eq_decide]; omega
  clear hy
  go_enter Try.func11, Try.ntmps11
  go_wp2_with fail
  exact bodyPost_ret (v := .tuple #[sgV ⟨4, ⟨#[]⟩, y, decide (128 ≤ x), false, 0⟩, .int .i64 0]) (by simp [results, Try.results11, go_sem, zeroSg, *]) rfl ⟨rfl, (by first | exact below1 _ _ | exact below2 _ _ _ | exact below3 _ _ _ _)⟩
set_option maxRecDepth 100000 in
set_option maxHeartbeats 2000000 in
theorem rsread_6 (A : Option Addr) (n c : Nat) (s : List UInt8) (w : World) (hs : Bs w A n c s) (h : n = 1) :
    Calls Try.prog 11 #[.int .i64 6, .slice A n c] w (Says w (.tuple #[sgV ⟨6, ⟨#[]⟩, 0, decide (bt s 0 / 8 % 2 = 1), decide (bt s 0 / 4 % 2 = 1), (bt s 0 % 4 : Nat)⟩, .int .i64 0])) := by
  subst h
  obtain ⟨b, off, rfl, hlt, hc⟩ := hs.at_ (by omega)
  have hc0 := hc 0 (by omega)
  have hb := bt_lt s 0
  change w.cell? ⟨b, off + 0, none⟩ = some (.int .u8 ((bt s 0 : Nat) : Int)) at hc0
  rw [Nat.add_zero] at hc0
  generalize bt s 0 = x at *
  have hcc : ∀ o1 o2 o3, (((w.alloc o1).alloc o2).alloc o3).cell? ⟨b, off, none⟩ = some (.int .u8 ((x : Nat) : Int)) := fun o1 o2 o3 => by
    rw [World.cell?_alloc_past _ _ _ (by simp; omega), World.cell?_alloc_past _ _ _ (by simp; omega), World.cell?_alloc_past _ _ _ hlt]
    exact hc0
  clear hc hs
  have hm1 : ((x : Nat) : Int).tmod 4 = ((x % 4 : Nat) : Int) := by rw [Int.tmod_eq_emod_of_nonneg (by omega)]; omega
  have hd1 : ((x : Nat) : Int).tdiv 4 = ((x / 4 : Nat) : Int) := by rw [Int.tdiv_eq_ediv_of_nonneg (by omega)]; omega
  have hd2 : ((x : Nat) : Int).tdiv 8 = ((x / 8 : Nat) : Int) := by rw [Int.tdiv_eq_ediv_of_nonneg (by omega)]; omega
  have hm2 : ((x / 4 : Nat) : Int).tmod 2 = ((x / 4 % 2 : Nat) : Int) := by rw [Int.tmod_eq_emod_of_nonneg (by omega)]; omega
  have hm3 : ((x / 8 : Nat) : Int).tmod 2 = ((x / 8 % 2 : Nat) : Int) := by rw [Int.tmod_eq_emod_of_nonneg (by omega)]; omega
  obtain ⟨y1, hy1, hz1⟩ : ∃ y, x / 4 % 2 = y ∧ y < 2 := ⟨_, rfl, by omega⟩
  obtain ⟨y2, hy2, hz2⟩ : ∃ y, x / 8 % 2 = y ∧ y < 2 := ⟨_, rfl, by omega⟩
  obtain ⟨y3, hy3, hz3⟩ : ∃ y, x % 4 = y ∧ y < 4 := ⟨_, rfl, by omega⟩
  rw [hy1] at hm2 ⊢
  rw [hy2] at hm3 ⊢
  rw [hy3] at hm1 ⊢
  obtain ⟨x4, hx4, hw4⟩ : ∃ y, x / 4 = y ∧ y < 64 := ⟨_, rfl, by omega⟩
  obtain ⟨x8, hx8, hw8⟩ : ∃ y, x / 8 = y ∧ y < 32 := ⟨_, rfl, by omega⟩
  rw [hx4] at hd1 hm2
  rw [hx8] at hd2 hm3
  have q1 : ((y1 : Int) == 1) = decide (y1 = 1) := by rw [Bool.eq_iff_iff]; simp; omega
  have q2 : ((y2 : Int) == 1) = decide (y2 = 1) := by rw [Bool.eq_iff_iff]; simp; omega
  clear hy1 hy2 hy3 hx4 hx8
  go_enter Try.func11, Try.ntmps11
  go_wp2_with fail
  exact bodyPost_ret (v := .tuple #[sgV ⟨6, ⟨#[]⟩, 0, decide (y2 = 1), decide (y1 = 1), (y3 : Int)⟩, .int .i64 0]) (by simp [results, Try.results11, go_sem, zeroSg, *]) rfl ⟨rfl, (by first | exact below1 _ _ | exact below2 _ _ _ | exact below3 _ _ _ _)⟩

theorem rsread_any (k : Int) (A : Option Addr) (n c : Nat) (s : List UInt8) (w : World) (hs : Bs w A n c s) :
    Calls Try.prog 11 #[.int .i64 k, .slice A n c] w (Says w (.tuple #[sgV (readSg k s), .int .i64 (signE k s)])) := by
  have hl := hs.len
  have er : ∀ e : Nat, e ≠ 0 → signE k s = e → readSg k s = zeroSg := fun e h0 h => by unfold readSg; rw [if_neg (by omega)]
  have ok : signE k s = 0 → readSg k s = signV k s := fun h => by unfold readSg; rw [if_pos h]
  by_cases h1 : k < 1 ∨ 6 < k
  · have e1 : signE k s = 1 := if_pos h1
    rw [er 1 (by omega) e1, e1]
    exact rsread_kind A n c s w hs k h1
  · by_cases h2 : s.length ≠ lenK k s.length ∨ k < 3 ∧ (s.length < 1 ∨ 16 < s.length)
    · have e1 : signE k s = 4 := by unfold signE; rw [if_neg h1, if_pos h2]
      rw [er 4 (by omega) e1, e1]
      rcases (show k = 1 ∨ k = 2 ∨ k = 3 ∨ k = 4 ∨ k = 5 ∨ k = 6 by omega) with rfl | rfl | rfl | rfl | rfl | rfl
      · exact rsread_len1 A n c s w hs (by rw [show lenK 1 s.length = s.length from rfl] at h2; omega)
      · exact rsread_len2 A n c s w hs (by rw [show lenK 2 s.length = s.length from rfl] at h2; omega)
      · exact rsread_len3 A n c s w hs (by rw [show lenK 3 s.length = 3 from rfl] at h2; omega)
      · exact rsread_len4 A n c s w hs (by rw [show lenK 4 s.length = 1 from rfl] at h2; omega)
      · exact rsread_len5 A n c s w hs (by rw [show lenK 5 s.length = 2 from rfl] at h2; omega)
      · exact rsread_len6 A n c s w hs (by rw [show lenK 6 s.length = 1 from rfl] at h2; omega)
    · by_cases h3 : k < 3 ∧ tokenB s = false
      · have e1 : signE k s = 6 := by unfold signE; rw [if_neg h1, if_neg h2, if_pos h3]
        rw [er 6 (by omega) e1, e1]
        rcases (show k = 1 ∨ k = 2 by omega) with rfl | rfl
        · exact rsread_tok1n A n c s w hs (by omega) (by omega) h3.2
        · exact rsread_tok2n A n c s w hs (by omega) (by omega) h3.2
      · have e1 : signE k s = 0 := by unfold signE; rw [if_neg h1, if_neg h2, if_neg h3]
        rw [ok e1, e1]
        rcases (show k = 1 ∨ k = 2 ∨ k = 3 ∨ k = 4 ∨ k = 5 ∨ k = 6 by omega) with rfl | rfl | rfl | rfl | rfl | rfl
        · exact rsread_tok1y A n c s w hs (by rw [show lenK 1 s.length = s.length from rfl] at h2; omega) (by rw [show lenK 1 s.length = s.length from rfl] at h2; omega) (by cases ht : tokenB s <;> simp_all)
        · exact rsread_tok2y A n c s w hs (by rw [show lenK 2 s.length = s.length from rfl] at h2; omega) (by rw [show lenK 2 s.length = s.length from rfl] at h2; omega) (by cases ht : tokenB s <;> simp_all)
        · exact rsread_num3 A n c s w hs (by rw [show lenK 3 s.length = 3 from rfl] at h2; omega)
        · exact rsread_4 A n c s w hs (by rw [show lenK 4 s.length = 1 from rfl] at h2; omega)
        · exact rsread_num5 A n c s w hs (by rw [show lenK 5 s.length = 2 from rfl] at h2; omega)
        · exact rsread_6 A n c s w hs (by rw [show lenK 6 s.length = 1 from rfl] at h2; omega)

end Go.Proofs.Ytnmnbiphonjlaaa

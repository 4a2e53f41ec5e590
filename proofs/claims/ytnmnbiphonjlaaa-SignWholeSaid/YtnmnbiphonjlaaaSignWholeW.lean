/-
  SignWhole, walked under the contracts of package sign's calls. (Written by gen_SignWholeW.py.)
-/
import Derived.Test.YtnmnbiphonjlaaaSignK
namespace Go.Proofs.Ytnmnbiphonjlaaa
open Go.RowKit
set_option linter.unusedVariables false
set_option linter.unusedSimpArgs false

theorem and3 (n : Int) : bits .and .i64 n 3 = n % 4 := by
  have h3 : (BitVec.ofInt 64 3).toNat = 2 ^ 2 - 1 := by decide
  have key : (BitVec.ofInt 64 n &&& BitVec.ofInt 64 3).toNat = (n % ((2 ^ 64 : Nat) : Int)).toNat % 2 ^ 2 := by
    rw [BitVec.toNat_and, BitVec.toNat_ofInt, h3, Nat.and_two_pow_sub_one_eq_mod]
  show IntKind.i64.wrap ((BitVec.ofInt 64 n &&& BitVec.ofInt 64 3).toNat : Nat) = n % 4
  rw [key, IntKind.wrap_i64]
  omega
theorem and127 (a : Nat) (h : a < 256) : bits .and .u32 (a : Int) 127 = ((a % 128 : Nat) : Int) := by
  rw [show (127 : Int) = ((127 : Nat) : Int) from rfl, u32_and_nat _ _ (by omega) (by omega), show a &&& 127 = a % 128 from Nat.and_two_pow_sub_one_eq_mod a 7]
section
variable (KC : SignCalls)
include KC
set_option maxRecDepth 100000 in
set_option maxHeartbeats 2000000 in
theorem signWhole_all (a b c : Nat) (n : Nat) (w : World) (ha : a < 256) (hb : b < 256) (hc : c < 256) (hn : n < 256) :
    Calls Try.prog 5 #[.int .u8 (a : Int), .int .u8 (b : Int), .int .u8 (c : Int), .int .u8 (n : Int)] w fun e w' => e = .returned (.bool true) ∧ Below w.heap.size w w' := by
  obtain ⟨y3, hy3⟩ : ∃ y : Int, ((num [UInt8.ofNat a, UInt8.ofNat b, UInt8.ofNat c] : Nat) : Int) = y := ⟨_, rfl⟩
  obtain ⟨y5, hy5⟩ : ∃ y : Int, ((num [UInt8.ofNat a, UInt8.ofNat b] : Nat) : Int) = y := ⟨_, rfl⟩
  obtain ⟨y4, hy4⟩ : ∃ y : Int, ((bt [UInt8.ofNat a] 0 % 128 : Nat) : Int) = y := ⟨_, rfl⟩
  obtain ⟨z4, hz4⟩ : ∃ y : Bool, decide (128 ≤ bt [UInt8.ofNat a] 0) = y := ⟨_, rfl⟩
  obtain ⟨y6, hy6⟩ : ∃ y : Int, ((bt [UInt8.ofNat a] 0 % 4 : Nat) : Int) = y := ⟨_, rfl⟩
  obtain ⟨z6, hz6⟩ : ∃ y : Bool, decide (bt [UInt8.ofNat a] 0 / 8 % 2 = 1) = y := ⟨_, rfl⟩
  obtain ⟨x6, hx6⟩ : ∃ y : Bool, decide (bt [UInt8.ofNat a] 0 / 4 % 2 = 1) = y := ⟨_, rfl⟩
  have H4 : Hid (∀ (W : World) A cc, Bs W A 1 cc [UInt8.ofNat a] → Calls Try.prog 10 #[.int .i64 4, .slice A 1 cc] W (Says W (.tuple #[.agg #[.int .i64 4, .string ⟨#[]⟩, .int .u32 y4, .bool z4, .bool false, .int .i64 0], .int .i64 0]))) := Lib.hid (fun W A cc h => by
    have := KC.read 4 A 1 cc [UInt8.ofNat a] W h (by omega) (by decide)
    have e0 : signE 4 [UInt8.ofNat a] = 0 := signE_of (by omega) (by omega) rfl (fun h => by omega)
    rw [show readSg 4 [UInt8.ofNat a] = signV 4 [UInt8.ofNat a] from if_pos e0, e0] at this
    rw [← hy4, ← hz4]
    exact this)
  have H6 : Hid (∀ (W : World) A cc, Bs W A 1 cc [UInt8.ofNat a] → Calls Try.prog 10 #[.int .i64 6, .slice A 1 cc] W (Says W (.tuple #[.agg #[.int .i64 6, .string ⟨#[]⟩, .int .u32 0, .bool z6, .bool x6, .int .i64 y6], .int .i64 0]))) := Lib.hid (fun W A cc h => by
    have := KC.read 6 A 1 cc [UInt8.ofNat a] W h (by omega) (by decide)
    have e0 : signE 6 [UInt8.ofNat a] = 0 := signE_of (by omega) (by omega) rfl (fun h => by omega)
    rw [show readSg 6 [UInt8.ofNat a] = signV 6 [UInt8.ofNat a] from if_pos e0, e0] at this
    rw [← hy6, ← hz6, ← hx6]
    exact this)
  have H3 : Hid (∀ (W : World) A cc, Bs W A 3 cc [UInt8.ofNat a, UInt8.ofNat b, UInt8.ofNat c] → Calls Try.prog 10 #[.int .i64 3, .slice A 3 cc] W (Says W (.tuple #[.agg #[.int .i64 3, .string ⟨#[]⟩, .int .u32 y3, .bool false, .bool false, .int .i64 0], .int .i64 0]))) := Lib.hid (fun W A cc h => by
    have := KC.read 3 A 3 cc [UInt8.ofNat a, UInt8.ofNat b, UInt8.ofNat c] W h (by omega) (by decide)
    have e0 : signE 3 [UInt8.ofNat a, UInt8.ofNat b, UInt8.ofNat c] = 0 := signE_of (by omega) (by omega) rfl (fun h => by omega)
    rw [show readSg 3 [UInt8.ofNat a, UInt8.ofNat b, UInt8.ofNat c] = signV 3 [UInt8.ofNat a, UInt8.ofNat b, UInt8.ofNat c] from if_pos e0, e0] at this
    rw [← hy3]
    exact this)
  have H5 : Hid (∀ (W : World) A cc, Bs W A 2 cc [UInt8.ofNat a, UInt8.ofNat b] → Calls Try.prog 10 #[.int .i64 5, .slice A 2 cc] W (Says W (.tuple #[.agg #[.int .i64 5, .string ⟨#[]⟩, .int .u32 y5, .bool false, .bool false, .int .i64 0], .int .i64 0]))) := Lib.hid (fun W A cc h => by
    have := KC.read 5 A 2 cc [UInt8.ofNat a, UInt8.ofNat b] W h (by omega) (by decide)
    have e0 : signE 5 [UInt8.ofNat a, UInt8.ofNat b] = 0 := signE_of (by omega) (by omega) rfl (fun h => by omega)
    rw [show readSg 5 [UInt8.ofNat a, UInt8.ofNat b] = signV 5 [UInt8.ofNat a, UInt8.ofNat b] from if_pos e0, e0] at this
    rw [← hy5]
    exact this)
  have q3 : y3 = (a : Int) * 65536 + b * 256 + c := by rw [← hy3]; simp only [num, List.foldl_cons, List.foldl_nil, toNat_ofNat ha, toNat_ofNat hb, toNat_ofNat hc]; omega
  have q5 : y5 = (a : Int) * 256 + b := by rw [← hy5]; simp only [num, List.foldl_cons, List.foldl_nil, toNat_ofNat ha, toNat_ofNat hb]; omega
  have q4 : y4 = ((a % 128 : Nat) : Int) := by rw [← hy4, bt_one, toNat_ofNat ha]
  have q6 : y6 = ((a % 4 : Nat) : Int) := by rw [← hy6, bt_one, toNat_ofNat ha]
  have Q := Lib.hid (And.intro q3 (And.intro q5 (And.intro q4 q6)))
  clear hy3 hy4 hy5 hy6 hz4 hz6 hx6 q3 q4 q5 q6
  go_enter Try.func5, Try.ntmps5
  go_wp2_with fail
  refine (awake_any KC _).mono ?_
  rintro e w2 ⟨rfl, hB⟩
  have hx : Bs (w2.alloc (.cells #[.int .u8 (a : Int)] 5)) (some ⟨w2.heap.size, 0, none⟩) 1 1 [UInt8.ofNat a] := by
    have := bs_lit w2 [UInt8.ofNat a] (List.map byteV [UInt8.ofNat a]).toArray 5 rfl (by simp [maxLen])
    simp only [World.size_alloc, List.map_cons, List.map_nil, byteV, toNat_ofNat ha] at this
    exact this
  replace hB := hB.alloc hB.size (.cells #[.int .u8 (a : Int)] 5)
  go_wp2_with fail
  refine (H4.out _ _ _ hx).mono ?_
  rintro e w3 ⟨rfl, hb⟩
  replace hx := hx.below hb
  replace hB := hB.trans (hb.mono hB.size)
  clear hb
  clear hx
  have k3 := Box.new w3 [.int .i64 4, .string ⟨#[]⟩, .int .u32 y4, .bool z4, .bool false, .int .i64 0] 24
  replace hB := hB.alloc hB.size (.cells #[.int .i64 4, .string ⟨#[]⟩, .int .u32 y4, .bool z4, .bool false, .int .i64 0] 24)
  have hx : Bs ((w3.alloc (.cells #[.int .i64 4, .string ⟨#[]⟩, .int .u32 y4, .bool z4, .bool false, .int .i64 0] 24)).alloc (.cells #[.int .u8 (a : Int)] 5)) (some ⟨w3.heap.size + 1, 0, none⟩) 1 1 [UInt8.ofNat a] := by
    have := bs_lit (w3.alloc (.cells #[.int .i64 4, .string ⟨#[]⟩, .int .u32 y4, .bool z4, .bool false, .int .i64 0] 24)) [UInt8.ofNat a] (List.map byteV [UInt8.ofNat a]).toArray 5 rfl (by simp [maxLen])
    simp only [World.size_alloc, List.map_cons, List.map_nil, byteV, toNat_ofNat ha] at this
    exact this
  replace k3 := k3.alloc (.cells #[.int .u8 (a : Int)] 5)
  replace hB := hB.alloc hB.size (.cells #[.int .u8 (a : Int)] 5)
  have fk3 := k3.all6.1
  go_wp2_with fail
  refine (H6.out _ _ _ hx).mono ?_
  rintro e w4 ⟨rfl, hb⟩
  clear fk3
  replace k3 := k3.call hb
  replace hx := hx.below hb
  replace hB := hB.trans (hb.mono hB.size)
  clear hb
  clear hx
  have k4 := Box.new w4 [.int .i64 6, .string ⟨#[]⟩, .int .u32 0, .bool z6, .bool x6, .int .i64 y6] 24
  replace k3 := k3.alloc (.cells #[.int .i64 6, .string ⟨#[]⟩, .int .u32 0, .bool z6, .bool x6, .int .i64 y6] 24)
  replace hB := hB.alloc hB.size (.cells #[.int .i64 6, .string ⟨#[]⟩, .int .u32 0, .bool z6, .bool x6, .int .i64 y6] 24)
  have hx : Bs ((w4.alloc (.cells #[.int .i64 6, .string ⟨#[]⟩, .int .u32 0, .bool z6, .bool x6, .int .i64 y6] 24)).alloc (.cells #[.int .u8 (a : Int), .int .u8 (b : Int), .int .u8 (c : Int)] 5)) (some ⟨w4.heap.size + 1, 0, none⟩) 3 3 [UInt8.ofNat a, UInt8.ofNat b, UInt8.ofNat c] := by
    have := bs_lit (w4.alloc (.cells #[.int .i64 6, .string ⟨#[]⟩, .int .u32 0, .bool z6, .bool x6, .int .i64 y6] 24)) [UInt8.ofNat a, UInt8.ofNat b, UInt8.ofNat c] (List.map byteV [UInt8.ofNat a, UInt8.ofNat b, UInt8.ofNat c]).toArray 5 rfl (by simp [maxLen])
    simp only [World.size_alloc, List.map_cons, List.map_nil, byteV, toNat_ofNat ha, toNat_ofNat hb, toNat_ofNat hc] at this
    exact this
  replace k3 := k3.alloc (.cells #[.int .u8 (a : Int), .int .u8 (b : Int), .int .u8 (c : Int)] 5)
  replace k4 := k4.alloc (.cells #[.int .u8 (a : Int), .int .u8 (b : Int), .int .u8 (c : Int)] 5)
  replace hB := hB.alloc hB.size (.cells #[.int .u8 (a : Int), .int .u8 (b : Int), .int .u8 (c : Int)] 5)
  have fk3 := k3.all6.1
  have fk4 := k4.all6.1
  go_wp2_with fail
  refine (H3.out _ _ _ hx).mono ?_
  rintro e w5 ⟨rfl, hb⟩
  clear fk3 fk4
  replace k3 := k3.call hb
  replace k4 := k4.call hb
  replace hx := hx.below hb
  replace hB := hB.trans (hb.mono hB.size)
  clear hb
  clear hx
  have k5 := Box.new w5 [.int .i64 3, .string ⟨#[]⟩, .int .u32 y3, .bool false, .bool false, .int .i64 0] 24
  replace k3 := k3.alloc (.cells #[.int .i64 3, .string ⟨#[]⟩, .int .u32 y3, .bool false, .bool false, .int .i64 0] 24)
  replace k4 := k4.alloc (.cells #[.int .i64 3, .string ⟨#[]⟩, .int .u32 y3, .bool false, .bool false, .int .i64 0] 24)
  replace hB := hB.alloc hB.size (.cells #[.int .i64 3, .string ⟨#[]⟩, .int .u32 y3, .bool false, .bool false, .int .i64 0] 24)
  have hx : Bs ((w5.alloc (.cells #[.int .i64 3, .string ⟨#[]⟩, .int .u32 y3, .bool false, .bool false, .int .i64 0] 24)).alloc (.cells #[.int .u8 (a : Int), .int .u8 (b : Int)] 5)) (some ⟨w5.heap.size + 1, 0, none⟩) 2 2 [UInt8.ofNat a, UInt8.ofNat b] := by
    have := bs_lit (w5.alloc (.cells #[.int .i64 3, .string ⟨#[]⟩, .int .u32 y3, .bool false, .bool false, .int .i64 0] 24)) [UInt8.ofNat a, UInt8.ofNat b] (List.map byteV [UInt8.ofNat a, UInt8.ofNat b]).toArray 5 rfl (by simp [maxLen])
    simp only [World.size_alloc, List.map_cons, List.map_nil, byteV, toNat_ofNat ha, toNat_ofNat hb] at this
    exact this
  replace k3 := k3.alloc (.cells #[.int .u8 (a : Int), .int .u8 (b : Int)] 5)
  replace k4 := k4.alloc (.cells #[.int .u8 (a : Int), .int .u8 (b : Int)] 5)
  replace k5 := k5.alloc (.cells #[.int .u8 (a : Int), .int .u8 (b : Int)] 5)
  replace hB := hB.alloc hB.size (.cells #[.int .u8 (a : Int), .int .u8 (b : Int)] 5)
  have fk3 := k3.all6.1
  have fk4 := k4.all6.1
  have fk5 := k5.all6.1
  go_wp2_with fail
  refine (H5.out _ _ _ hx).mono ?_
  rintro e w6 ⟨rfl, hb⟩
  clear fk3 fk4 fk5
  replace k3 := k3.call hb
  replace k4 := k4.call hb
  replace k5 := k5.call hb
  replace hx := hx.below hb
  replace hB := hB.trans (hb.mono hB.size)
  clear hb
  clear hx
  have k6 := Box.new w6 [.int .i64 5, .string ⟨#[]⟩, .int .u32 y5, .bool false, .bool false, .int .i64 0] 24
  replace k3 := k3.alloc (.cells #[.int .i64 5, .string ⟨#[]⟩, .int .u32 y5, .bool false, .bool false, .int .i64 0] 24)
  replace k4 := k4.alloc (.cells #[.int .i64 5, .string ⟨#[]⟩, .int .u32 y5, .bool false, .bool false, .int .i64 0] 24)
  replace k5 := k5.alloc (.cells #[.int .i64 5, .string ⟨#[]⟩, .int .u32 y5, .bool false, .bool false, .int .i64 0] 24)
  replace hB := hB.alloc hB.size (.cells #[.int .i64 5, .string ⟨#[]⟩, .int .u32 y5, .bool false, .bool false, .int .i64 0] 24)
  have fk3 := k3.all6.1
  have fk4 := k4.all6.1
  have fk5 := k5.all6.1
  have fk6 := k6.all6.1
  have e3 : (y3 != (a : Int) * 65536 + (b : Int) * 256 + (c : Int)) = false := by rw [bne_eq_false_iff_eq]; exact Q.out.1
  have e5 : (y5 != (a : Int) * 256 + (b : Int)) = false := by rw [bne_eq_false_iff_eq]; exact Q.out.2.1
  have e4 : (y4 != bits .and .u32 (a : Int) 127) = false := by rw [bne_eq_false_iff_eq, and127 a ha]; exact Q.out.2.2.1
  have e6 : (y6 != bits .and .i64 (a : Int) 3) = false := by rw [bne_eq_false_iff_eq, and3, Q.out.2.2.2]; omega
  have hn9 : ((n : Nat) : Int).tmod 9 = ((n % 9 : Nat) : Int) := by rw [Int.tmod_eq_emod_of_nonneg (by omega)]; omega
  obtain ⟨m, hm, hm9⟩ : ∃ m, n % 9 = m ∧ m ≤ 8 := ⟨_, rfl, by omega⟩
  rw [hm] at hn9
  have M := make_zeros m (by omega)
  clear hm
  go_upto_region 10 with fail
  clear fk3 fk4 fk5 fk6
  have hz : Bs ((w6.alloc (.cells #[.int .i64 5, .string ⟨#[]⟩, .int .u32 y5, .bool false, .bool false, .int .i64 0] 24)).alloc (.cells (zeroRow m) 5)) (some ⟨w6.heap.size + 1, 0, none⟩) m m (List.replicate m 0) := by
    have := bs_lit (w6.alloc (.cells #[.int .i64 5, .string ⟨#[]⟩, .int .u32 y5, .bool false, .bool false, .int .i64 0] 24)) (List.replicate m 0) (zeroRow m) 5 rfl (by simp [maxLen]; omega)
    rwa [List.length_replicate, World.size_alloc] at this
  replace hB := hB.alloc hB.size (.cells (zeroRow m) 5)
  clear k3 k4 k5 k6 e3 e4 e5 e6 M
  have hZ := hz
  generalize ((w6.alloc (.cells #[.int .i64 5, .string ⟨#[]⟩, .int .u32 y5, .bool false, .bool false, .int .i64 0] 24)).alloc (.cells (zeroRow m) 5)) = w7 at *
  go_wp2_with fail
  go_loopw [18] (fun i W => ∃ j : Nat, 3 ≤ j ∧ j ≤ 7 ∧ i = .int .i64 j ∧ Below w7.heap.size w7 W) (fun i _ => 7 - (intOf i).toNat)
  case atStart => exact ⟨3, by omega, by omega, rfl, Below.refl _ _⟩
  case round =>
    obtain ⟨j, hj3, hj7, rfl, hBj⟩ := hrel
    have hzr := hz.below hBj
    by_cases hj : j ≤ 6
    · rcases (show j = 3 ∨ j = 4 ∨ j = 5 ∨ j = 6 by omega) with rfl | rfl | rfl | rfl
      · have HRk := KC.read 3 _ m m (List.replicate m 0) _ (hzr.alloc (.cells #[.int .i64 3, .int .i64 1, .int .i64 2, .int .i64 1] 3)) (by omega) (by decide)
        have hse : signE 3 (List.replicate m 0) = if m = 3 then 0 else 4 := by
          by_cases h : m = 3
          · rw [if_pos h]
            exact signE_of (by omega) (by omega) (by rw [List.length_replicate]; exact h) (fun h => by omega)
          · rw [if_neg h]
            unfold signE
            rw [if_neg (by omega), if_pos (.inl (by rw [List.length_replicate]; exact h))]
        generalize readSg 3 (List.replicate m 0) = r at *
        obtain ⟨rk, rt, rm, ra, rb, ru⟩ := r
        dsimp only [sgV] at HRk
        by_cases hm : m = 3
        · rw [if_pos hm] at hse
          have q1 : ((m : Int) == 3) = true := by rw [beq_iff_eq]; omega
          rw [hse] at HRk
          clear hse hm
          go_wp2_with fail
          refine HRk.mono ?_
          rintro e w8 ⟨rfl, hb⟩
          go_wp2_with fail
          go_roundw
          case rel => exact ⟨4, by omega, by omega, rfl, (hBj.alloc hBj.size _).trans (hb.mono (by have := hBj.size; simp; omega)) |>.alloc (by have := hBj.size; have := hb.size; simp at this; omega) _⟩
          case measure => simp [intOf]
        · rw [if_neg hm] at hse
          have q1 : ((m : Int) == 3) = false := by rw [beq_eq_false_iff_ne]; omega
          rw [hse] at HRk
          clear hse hm
          go_wp2_with fail
          refine HRk.mono ?_
          rintro e w8 ⟨rfl, hb⟩
          go_wp2_with fail
          go_roundw
          case rel => exact ⟨4, by omega, by omega, rfl, (hBj.alloc hBj.size _).trans (hb.mono (by have := hBj.size; simp; omega)) |>.alloc (by have := hBj.size; have := hb.size; simp at this; omega) _⟩
          case measure => simp [intOf]
      · have HRk := KC.read 4 _ m m (List.replicate m 0) _ (hzr.alloc (.cells #[.int .i64 3, .int .i64 1, .int .i64 2, .int .i64 1] 3)) (by omega) (by decide)
        have hse : signE 4 (List.replicate m 0) = if m = 1 then 0 else 4 := by
          by_cases h : m = 1
          · rw [if_pos h]
            exact signE_of (by omega) (by omega) (by rw [List.length_replicate]; exact h) (fun h => by omega)
          · rw [if_neg h]
            unfold signE
            rw [if_neg (by omega), if_pos (.inl (by rw [List.length_replicate]; exact h))]
        generalize readSg 4 (List.replicate m 0) = r at *
        obtain ⟨rk, rt, rm, ra, rb, ru⟩ := r
        dsimp only [sgV] at HRk
        by_cases hm : m = 1
        · rw [if_pos hm] at hse
          have q1 : ((m : Int) == 1) = true := by rw [beq_iff_eq]; omega
          rw [hse] at HRk
          clear hse hm
          go_wp2_with fail
          refine HRk.mono ?_
          rintro e w8 ⟨rfl, hb⟩
          go_wp2_with fail
          go_roundw
          case rel => exact ⟨5, by omega, by omega, rfl, (hBj.alloc hBj.size _).trans (hb.mono (by have := hBj.size; simp; omega)) |>.alloc (by have := hBj.size; have := hb.size; simp at this; omega) _⟩
          case measure => simp [intOf]
        · rw [if_neg hm] at hse
          have q1 : ((m : Int) == 1) = false := by rw [beq_eq_false_iff_ne]; omega
          rw [hse] at HRk
          clear hse hm
          go_wp2_with fail
          refine HRk.mono ?_
          rintro e w8 ⟨rfl, hb⟩
          go_wp2_with fail
          go_roundw
          case rel => exact ⟨5, by omega, by omega, rfl, (hBj.alloc hBj.size _).trans (hb.mono (by have := hBj.size; simp; omega)) |>.alloc (by have := hBj.size; have := hb.size; simp at this; omega) _⟩
          case measure => simp [intOf]
      · have HRk := KC.read 5 _ m m (List.replicate m 0) _ (hzr.alloc (.cells #[.int .i64 3, .int .i64 1, .int .i64 2, .int .i64 1] 3)) (by omega) (by decide)
        have hse : signE 5 (List.replicate m 0) = if m = 2 then 0 else 4 := by
          by_cases h : m = 2
          · rw [if_pos h]
            exact signE_of (by omega) (by omega) (by rw [List.length_replicate]; exact h) (fun h => by omega)
          · rw [if_neg h]
            unfold signE
            rw [if_neg (by omega), if_pos (.inl (by rw [List.length_replicate]; exact h))]
        generalize readSg 5 (List.replicate m 0) = r at *
        obtain ⟨rk, rt, rm, ra, rb, ru⟩ := r
        dsimp only [sgV] at HRk
        by_cases hm : m = 2
        · rw [if_pos hm] at hse
          have q1 : ((m : Int) == 2) = true := by rw [beq_iff_eq]; omega
          rw [hse] at HRk
          clear hse hm
          go_wp2_with fail
          refine HRk.mono ?_
          rintro e w8 ⟨rfl, hb⟩
          go_wp2_with fail
          go_roundw
          case rel => exact ⟨6, by omega, by omega, rfl, (hBj.alloc hBj.size _).trans (hb.mono (by have := hBj.size; simp; omega)) |>.alloc (by have := hBj.size; have := hb.size; simp at this; omega) _⟩
          case measure => simp [intOf]
        · rw [if_neg hm] at hse
          have q1 : ((m : Int) == 2) = false := by rw [beq_eq_false_iff_ne]; omega
          rw [hse] at HRk
          clear hse hm
          go_wp2_with fail
          refine HRk.mono ?_
          rintro e w8 ⟨rfl, hb⟩
          go_wp2_with fail
          go_roundw
          case rel => exact ⟨6, by omega, by omega, rfl, (hBj.alloc hBj.size _).trans (hb.mono (by have := hBj.size; simp; omega)) |>.alloc (by have := hBj.size; have := hb.size; simp at this; omega) _⟩
          case measure => simp [intOf]
      · have HRk := KC.read 6 _ m m (List.replicate m 0) _ (hzr.alloc (.cells #[.int .i64 3, .int .i64 1, .int .i64 2, .int .i64 1] 3)) (by omega) (by decide)
        have hse : signE 6 (List.replicate m 0) = if m = 1 then 0 else 4 := by
          by_cases h : m = 1
          · rw [if_pos h]
            exact signE_of (by omega) (by omega) (by rw [List.length_replicate]; exact h) (fun h => by omega)
          · rw [if_neg h]
            unfold signE
            rw [if_neg (by omega), if_pos (.inl (by rw [List.length_replicate]; exact h))]
        generalize readSg 6 (List.replicate m 0) = r at *
        obtain ⟨rk, rt, rm, ra, rb, ru⟩ := r
        dsimp only [sgV] at HRk
        by_cases hm : m = 1
        · rw [if_pos hm] at hse
          have q1 : ((m : Int) == 1) = true := by rw [beq_iff_eq]; omega
          rw [hse] at HRk
          clear hse hm
          go_wp2_with fail
          refine HRk.mono ?_
          rintro e w8 ⟨rfl, hb⟩
          go_wp2_with fail
          go_roundw
          case rel => exact ⟨7, by omega, by omega, rfl, (hBj.alloc hBj.size _).trans (hb.mono (by have := hBj.size; simp; omega)) |>.alloc (by have := hBj.size; have := hb.size; simp at this; omega) _⟩
          case measure => simp [intOf]
        · rw [if_neg hm] at hse
          have q1 : ((m : Int) == 1) = false := by rw [beq_eq_false_iff_ne]; omega
          rw [hse] at HRk
          clear hse hm
          go_wp2_with fail
          refine HRk.mono ?_
          rintro e w8 ⟨rfl, hb⟩
          go_wp2_with fail
          go_roundw
          case rel => exact ⟨7, by omega, by omega, rfl, (hBj.alloc hBj.size _).trans (hb.mono (by have := hBj.size; simp; omega)) |>.alloc (by have := hBj.size; have := hb.size; simp at this; omega) _⟩
          case measure => simp [intOf]
    · obtain rfl : j = 7 := by omega
      go_wp2_with fail
      go_ret
      exact ⟨rfl, hB.trans (hBj.mono hB.size)⟩

end

end Go.Proofs.Ytnmnbiphonjlaaa

/-
  What the document's own answers for layer 9 come to: Right, Write. (Written by gen_SignR.py.)
-/
import Derived.Test.YtnmnbiphonjlaaaSignM
import Derived.Test.YtnmnbiphonjlaaaBox6
import Derived.Test.YtnmnbiphonjlaaaBase
import Derived.Test.YtnmnbiphonjlaaaConv
namespace Go.Proofs.Ytnmnbiphonjlaaa
open Go.RowKit
set_option linter.unusedVariables false
set_option linter.unusedSimpArgs false

abbrev sgV (p : Sg) : Value := .agg #[.int .i64 p.kind, .string p.text, .int .u32 (p.num : Int), .bool p.a, .bool p.b, .int .i64 p.turns]
theorem text_ne {t : ByteArray} (h : t.size ≠ 0) : (t.toList == ([] : List UInt8)) = false := by
  rw [beq_eq_false_iff_ne, Go.ByteArray.toList_eq]
  intro e
  apply h
  have : t.data.toList.length = 0 := by rw [e]; rfl
  simpa using this
set_option maxRecDepth 100000 in
set_option maxHeartbeats 2000000 in
theorem rsright_any (p : Sg) (w : World) (hs : p.text.size ≤ 140737488355328) :
    Calls Try.prog 7 #[sgV p] w (Says w (.bool (rightSg p))) := by
  obtain ⟨k, t, n, a, b, u⟩ := p
  simp only at hs
  have k1 := Box.new w [.int .i64 k, .string t, .int .u32 (n : Int), .bool a, .bool b, .int .i64 u] 24
  have f1 := k1.all6.1
  obtain ⟨r, hr⟩ : ∃ r, rightSg ⟨k, t, n, a, b, u⟩ = r := ⟨_, rfl⟩
  rw [hr]
  have HR := Lib.hid hr
  clear hr
  by_cases h12 : k = 1 ∨ k = 2
  · have HR2 := Lib.hid (show r = (tokenB t.data.toList && decide (n = 0 ∧ a = false ∧ b = false ∧ u = 0)) by rw [← HR.out]; unfold rightSg; rw [if_pos h12])
    clear HR
    have HT := Lib.hid (rtoken_any t)
    generalize tokenB t.data.toList = tk at *
    rcases h12 with rfl | rfl
    all_goals
      go_enter Try.func7, Try.ntmps7
      go_wp2_with fail
      refine (HT.out _ hs).mono ?_
      rintro e w2 ⟨rfl, rfl⟩
      go_wp2_with fail
      all_goals
        go_ret
        refine ⟨?_, below1 _ _⟩
        rw [HR2.out]
        first
          | (simp [*]; done)
          | (simp [*]; rw [Bool.eq_iff_iff]; simp; done)
          | (simp [*]; rw [Bool.eq_iff_iff]; simp; omega)
          | (simp_all; done)
          | (simp [*]; omega)
          | (simp; omega)
          | rfl
  · by_cases h3 : k = 3
    · subst h3
      obtain ⟨m, hm⟩ : ∃ m : Int, (n : Int) = m := ⟨_, rfl⟩
      have HR2 := Lib.hid (show r = decide (t.size = 0 ∧ m < 16777216 ∧ a = false ∧ b = false ∧ u = 0) by
        rw [← HR.out]
        show decide (t.size = 0 ∧ n < 16777216 ∧ a = false ∧ b = false ∧ u = 0) = decide (t.size = 0 ∧ m < 16777216 ∧ a = false ∧ b = false ∧ u = 0)
        rw [decide_eq_decide]
        have e : n < 16777216 ↔ m < 16777216 := by omega
        simp only [e])
      dsimp only [sgV]
      rw [hm] at f1 ⊢
      clear HR h12 hm k1
      by_cases ht : t.size = 0
      · obtain rfl := text_nil ht
        go_enter Try.func7, Try.ntmps7
        go_wp2_with fail
        all_goals
          go_ret
          refine ⟨?_, below1 _ _⟩
          rw [HR2.out]
          first
            | (simp [*]; done)
            | (simp [*]; rw [Bool.eq_iff_iff]; simp; done)
            | (simp [*]; rw [Bool.eq_iff_iff]; simp; omega)
            | (simp_all; done)
            | (simp [*]; omega)
            | (simp; omega)
            | rfl
      · have hne := text_ne ht
        go_enter Try.func7, Try.ntmps7
        go_wp2_with fail
        all_goals
          go_ret
          refine ⟨?_, below1 _ _⟩
          rw [HR2.out]
          first
            | (simp [*]; done)
            | (simp [*]; rw [Bool.eq_iff_iff]; simp; done)
            | (simp [*]; rw [Bool.eq_iff_iff]; simp; omega)
            | (simp_all; done)
            | (simp [*]; omega)
            | (simp; omega)
            | rfl
    · by_cases h4 : k = 4
      · subst h4
        obtain ⟨m, hm⟩ : ∃ m : Int, (n : Int) = m := ⟨_, rfl⟩
        have HR2 := Lib.hid (show r = decide (t.size = 0 ∧ m < 128 ∧ b = false ∧ u = 0) by
          rw [← HR.out]
          show decide (t.size = 0 ∧ n < 128 ∧ b = false ∧ u = 0) = decide (t.size = 0 ∧ m < 128 ∧ b = false ∧ u = 0)
          rw [decide_eq_decide]
          have e : n < 128 ↔ m < 128 := by omega
          simp only [e])
        dsimp only [sgV]
        rw [hm] at f1 ⊢
        clear HR h12 hm k1
        by_cases ht : t.size = 0
        · obtain rfl := text_nil ht
          go_enter Try.func7, Try.ntmps7
          go_wp2_with fail
          all_goals
            go_ret
            refine ⟨?_, below1 _ _⟩
            rw [HR2.out]
            first
              | (simp [*]; done)
              | (simp [*]; rw [Bool.eq_iff_iff]; simp; done)
              | (simp [*]; rw [Bool.eq_iff_iff]; simp; omega)
              | (simp_all; done)
              | (simp [*]; omega)
              | (simp; omega)
              | rfl
        · have hne := text_ne ht
          go_enter Try.func7, Try.ntmps7
          go_wp2_with fail
          all_goals
            go_ret
            refine ⟨?_, below1 _ _⟩
            rw [HR2.out]
            first
              | (simp [*]; done)
              | (simp [*]; rw [Bool.eq_iff_iff]; simp; done)
              | (simp [*]; rw [Bool.eq_iff_iff]; simp; omega)
              | (simp_all; done)
              | (simp [*]; omega)
              | (simp; omega)
              | rfl
      · by_cases h5 : k = 5
        · subst h5
          obtain ⟨m, hm⟩ : ∃ m : Int, (n : Int) = m := ⟨_, rfl⟩
          have HR2 := Lib.hid (show r = decide (t.size = 0 ∧ m < 65536 ∧ a = false ∧ b = false ∧ u = 0) by
            rw [← HR.out]
            show decide (t.size = 0 ∧ n < 65536 ∧ a = false ∧ b = false ∧ u = 0) = decide (t.size = 0 ∧ m < 65536 ∧ a = false ∧ b = false ∧ u = 0)
            rw [decide_eq_decide]
            have e : n < 65536 ↔ m < 65536 := by omega
            simp only [e])
          dsimp only [sgV]
          rw [hm] at f1 ⊢
          clear HR h12 hm k1
          by_cases ht : t.size = 0
          · obtain rfl := text_nil ht
            go_enter Try.func7, Try.ntmps7
            go_wp2_with fail
            all_goals
              go_ret
              refine ⟨?_, below1 _ _⟩
              rw [HR2.out]
              first
                | (simp [*]; done)
                | (simp [*]; rw [Bool.eq_iff_iff]; simp; done)
                | (simp [*]; rw [Bool.eq_iff_iff]; simp; omega)
                | (simp_all; done)
                | (simp [*]; omega)
                | (simp; omega)
                | rfl
          · have hne := text_ne ht
            go_enter Try.func7, Try.ntmps7
            go_wp2_with fail
            all_goals
              go_ret
              refine ⟨?_, below1 _ _⟩
              rw [HR2.out]
              first
                | (simp [*]; done)
                | (simp [*]; rw [Bool.eq_iff_iff]; simp; done)
                | (simp [*]; rw [Bool.eq_iff_iff]; simp; omega)
                | (simp_all; done)
                | (simp [*]; omega)
                | (simp; omega)
                | rfl
        · by_cases h6 : k = 6
          · subst h6
            obtain ⟨m, hm⟩ : ∃ m : Int, (n : Int) = m := ⟨_, rfl⟩
            have HR2 := Lib.hid (show r = decide (t.size = 0 ∧ m = 0 ∧ 0 ≤ u ∧ u < 4) by
              rw [← HR.out]
              show decide (t.size = 0 ∧ n = 0 ∧ 0 ≤ u ∧ u < 4) = decide (t.size = 0 ∧ m = 0 ∧ 0 ≤ u ∧ u < 4)
              rw [decide_eq_decide]
              have e : n = 0 ↔ m = 0 := by omega
              simp only [e])
            dsimp only [sgV]
            rw [hm] at f1 ⊢
            clear HR h12 hm k1
            by_cases ht : t.size = 0
            · obtain rfl := text_nil ht
              go_enter Try.func7, Try.ntmps7
              go_wp2_with fail
              all_goals
                go_ret
                refine ⟨?_, below1 _ _⟩
                rw [HR2.out]
                first
                  | (simp [*]; done)
                  | (simp [*]; rw [Bool.eq_iff_iff]; simp; done)
                  | (simp [*]; rw [Bool.eq_iff_iff]; simp; omega)
                  | (simp_all; done)
                  | (simp [*]; omega)
                  | (simp; omega)
                  | rfl
            · have hne := text_ne ht
              go_enter Try.func7, Try.ntmps7
              go_wp2_with fail
              all_goals
                go_ret
                refine ⟨?_, below1 _ _⟩
                rw [HR2.out]
                first
                  | (simp [*]; done)
                  | (simp [*]; rw [Bool.eq_iff_iff]; simp; done)
                  | (simp [*]; rw [Bool.eq_iff_iff]; simp; omega)
                  | (simp_all; done)
                  | (simp [*]; omega)
                  | (simp; omega)
                  | rfl
          · have HR2 := Lib.hid (show r = false by rw [← HR.out]; unfold rightSg; rw [if_neg h12, if_neg h3, if_neg h4, if_neg h5, if_neg h6])
            have g1 : (k == 1) = false := by rw [beq_eq_false_iff_ne]; omega
            have g2 : (k == 2) = false := by rw [beq_eq_false_iff_ne]; omega
            have g3 : (k == 3) = false := by rw [beq_eq_false_iff_ne]; omega
            have g4 : (k == 4) = false := by rw [beq_eq_false_iff_ne]; omega
            have g5 : (k == 5) = false := by rw [beq_eq_false_iff_ne]; omega
            have g6 : (k == 6) = false := by rw [beq_eq_false_iff_ne]; omega
            clear HR h12 h3 h4 h5 h6
            go_enter Try.func7, Try.ntmps7
            go_wp2_with fail
            go_ret
            exact ⟨by rw [HR2.out]; rfl, below1 _ _⟩

def rwK (p : Sg) (k : Int) : Prop := rightSg p = true ∧ p.kind = k
set_option maxRecDepth 100000 in
set_option maxHeartbeats 2000000 in
theorem rswrite_any (p : Sg) (w : World) (hr : rightSg p = true) (hf : p.num < 4294967296) :
    Calls Try.prog 9 #[sgV p] w fun e w' => ∃ A c, e = .returned (.slice A (writeSg p).length c) ∧ Bs w' A (writeSg p).length c (writeSg p) ∧ Below w.heap.size w w' := by
  have hk := right_kind hr
  have r12 := fun h => right_text hr h
  have r3 := fun h => right_3 hr h
  have r4 := fun h => right_4 hr h
  have r5 := fun h => right_5 hr h
  have r6 := fun h => right_6 hr h
  clear hr
  obtain ⟨k, t, n, a, b, u⟩ := p
  simp only at hf hk r12 r3 r4 r5 r6
  have k1 := Box.new w [.int .i64 k, .string t, .int .u32 (n : Int), .bool a, .bool b, .int .i64 u] 24
  have f1 := k1.all6.1
  have hB := below1 w (.cells #[.int .i64 k, .string t, .int .u32 (n : Int), .bool a, .bool b, .int .i64 u] 24)
  rcases hk with hk | hk | hk | hk | hk
  · have HZ := Lib.hid (show writeSg ⟨k, t, n, a, b, u⟩ = t.data.toList by unfold writeSg; rw [if_neg (show ¬ k = 3 by omega), if_neg (show ¬ k = 4 by omega), if_neg (show ¬ k = 5 by omega), if_neg (show ¬ k = 6 by omega)])
    have hts : t.size ≤ 16 := by have := (tokenB_size (r12 hk).1).2; simpa using this
    rw [HZ.out, show t.data.toList.length = t.size by simp]
    clear HZ r12 r3 r4 r5 r6
    have k1 := Box.new w [.int .i64 k, .string t, .int .u32 (n : Int), .bool a, .bool b, .int .i64 u] 24
    have f1 := k1.all6.1
    have hB := below1 w (.cells #[.int .i64 k, .string t, .int .u32 (n : Int), .bool a, .bool b, .int .i64 u] 24)
    obtain ⟨A2, c2, w2, hr2, hs2, hb2⟩ := conv_bytes (P := Try.prog) 9 25 5 Try.underlying9 Try.underlying25 Try.underlying5 t (by omega) (w.alloc (.cells #[.int .i64 k, .string t, .int .u32 (n : Int), .bool a, .bool b, .int .i64 u] 24))
    rcases hk with rfl | rfl
    all_goals
      go_enter Try.func9, Try.ntmps9
      go_wp2_with fail
      go_ret
      exact ⟨A2, c2, rfl, hs2, hB.trans (hb2.mono hB.size)⟩
  · subst hk
    obtain ⟨q1, q2, rfl, rfl, rfl⟩ := r3 rfl
    have k1 := Box.new w [.int .i64 3, .string t, .int .u32 (n : Int), .bool false, .bool false, .int .i64 0] 24
    have f1 := k1.all6.1
    have hB := below1 w (.cells #[.int .i64 3, .string t, .int .u32 (n : Int), .bool false, .bool false, .int .i64 0] 24)
    have HZ : writeSg ⟨3, t, n, false, false, 0⟩ = be 3 n := rfl
    rw [HZ, be_length]
    clear HZ r12 r3 r4 r5 r6
    go_enter Try.func9, Try.ntmps9
    go_wp2_with fail
    refine (rmust_int _ n 3 _ rfl (by omega) (by omega) (by omega)).mono ?_
    rintro x w2 ⟨A2, c2, rfl, hs2, hb⟩
    go_wp2_with fail
    go_ret
    exact ⟨A2, c2, rfl, hs2, hB.trans (hb.mono hB.size)⟩
  · subst hk
    obtain ⟨q1, q2, rfl, rfl⟩ := r4 rfl
    clear r12 r3 r4 r5 r6
    cases a
    · have k1 := Box.new w [.int .i64 4, .string t, .int .u32 (n : Int), .bool false, .bool false, .int .i64 0] 24
      have f1 := k1.all6.1
      have hB := below1 w (.cells #[.int .i64 4, .string t, .int .u32 (n : Int), .bool false, .bool false, .int .i64 0] 24)
      have HZ : writeSg ⟨4, t, n, false, false, 0⟩ = [UInt8.ofNat n] := rfl
      have hx := Bs.lit1 (w.alloc (.cells #[.int .i64 4, .string t, .int .u32 (n : Int), .bool false, .bool false, .int .i64 0] 24)) (UInt8.ofNat n) 5
      unfold byteV at hx
      rw [toNat_ofNat (show n < 256 by omega), World.size_alloc] at hx
      rw [HZ]
      clear HZ
      go_enter Try.func9, Try.ntmps9
      go_wp2_with fail
      go_ret
      exact ⟨_, _, rfl, hx, hB.alloc (by simp) _⟩
    · have k1 := Box.new w [.int .i64 4, .string t, .int .u32 (n : Int), .bool true, .bool false, .int .i64 0] 24
      have f1 := k1.all6.1
      have hB := below1 w (.cells #[.int .i64 4, .string t, .int .u32 (n : Int), .bool true, .bool false, .int .i64 0] 24)
      have HZ : writeSg ⟨4, t, n, true, false, 0⟩ = [UInt8.ofNat (n + 128)] := rfl
      have hx := Bs.lit1 (w.alloc (.cells #[.int .i64 4, .string t, .int .u32 (n : Int), .bool true, .bool false, .int .i64 0] 24)) (UInt8.ofNat (n + 128)) 5
      unfold byteV at hx
      rw [toNat_ofNat (show n + 128 < 256 by omega), show ((n + 128 : Nat) : Int) = (n : Int) + 128 by omega, World.size_alloc] at hx
      rw [HZ]
      clear HZ
      go_enter Try.func9, Try.ntmps9
      go_wp2_with fail
      go_ret
      exact ⟨_, _, rfl, hx, hB.alloc (by simp) _⟩
  · subst hk
    obtain ⟨q1, q2, rfl, rfl, rfl⟩ := r5 rfl
    have k1 := Box.new w [.int .i64 5, .string t, .int .u32 (n : Int), .bool false, .bool false, .int .i64 0] 24
    have f1 := k1.all6.1
    have hB := below1 w (.cells #[.int .i64 5, .string t, .int .u32 (n : Int), .bool false, .bool false, .int .i64 0] 24)
    have HZ : writeSg ⟨5, t, n, false, false, 0⟩ = be 2 n := rfl
    rw [HZ, be_length]
    clear HZ r12 r3 r4 r5 r6
    go_enter Try.func9, Try.ntmps9
    go_wp2_with fail
    refine (rmust_int _ n 2 _ rfl (by omega) (by omega) (by omega)).mono ?_
    rintro x w2 ⟨A2, c2, rfl, hs2, hb⟩
    go_wp2_with fail
    go_ret
    exact ⟨A2, c2, rfl, hs2, hB.trans (hb.mono hB.size)⟩
  · subst hk
    obtain ⟨q1, rfl, q3, q4⟩ := r6 rfl
    clear r12 r3 r4 r5 r6
    obtain ⟨v, rfl⟩ := Int.eq_ofNat_of_zero_le q3
    have hv : v < 4 := by omega
    cases a <;> cases b
    · have k1 := Box.new w [.int .i64 6, .string t, .int .u32 ((0 : Nat) : Int), .bool false, .bool false, .int .i64 (v : Int)] 24
      have f1 := k1.all6.1
      have hB := below1 w (.cells #[.int .i64 6, .string t, .int .u32 ((0 : Nat) : Int), .bool false, .bool false, .int .i64 (v : Int)] 24)
      have HZ : writeSg ⟨6, t, 0, false, false, (v : Int)⟩ = [UInt8.ofNat (v)] := by
        show [UInt8.ofNat (turnN ⟨6, t, 0, false, false, (v : Int)⟩)] = _
        unfold turnN
        simp
      have hx := Bs.lit1 (w.alloc (.cells #[.int .i64 6, .string t, .int .u32 ((0 : Nat) : Int), .bool false, .bool false, .int .i64 (v : Int)] 24)) (UInt8.ofNat (v)) 5
      unfold byteV at hx
      rw [toNat_ofNat (show v < 256 by omega), show ((v : Nat) : Int) = (v : Int) by omega, World.size_alloc] at hx
      rw [HZ]
      clear HZ
      go_enter Try.func9, Try.ntmps9
      go_wp2_with fail
      go_ret
      exact ⟨_, _, rfl, hx, hB.alloc (by simp) _⟩
    · have k1 := Box.new w [.int .i64 6, .string t, .int .u32 ((0 : Nat) : Int), .bool false, .bool true, .int .i64 (v : Int)] 24
      have f1 := k1.all6.1
      have hB := below1 w (.cells #[.int .i64 6, .string t, .int .u32 ((0 : Nat) : Int), .bool false, .bool true, .int .i64 (v : Int)] 24)
      have HZ : writeSg ⟨6, t, 0, false, true, (v : Int)⟩ = [UInt8.ofNat (v + 4)] := by
        show [UInt8.ofNat (turnN ⟨6, t, 0, false, true, (v : Int)⟩)] = _
        unfold turnN
        simp
      have hx := Bs.lit1 (w.alloc (.cells #[.int .i64 6, .string t, .int .u32 ((0 : Nat) : Int), .bool false, .bool true, .int .i64 (v : Int)] 24)) (UInt8.ofNat (v + 4)) 5
      unfold byteV at hx
      rw [toNat_ofNat (show v + 4 < 256 by omega), show ((v + 4 : Nat) : Int) = (v : Int) + 4 by omega, World.size_alloc] at hx
      rw [HZ]
      clear HZ
      go_enter Try.func9, Try.ntmps9
      go_wp2_with fail
      go_ret
      exact ⟨_, _, rfl, hx, hB.alloc (by simp) _⟩
    · have k1 := Box.new w [.int .i64 6, .string t, .int .u32 ((0 : Nat) : Int), .bool true, .bool false, .int .i64 (v : Int)] 24
      have f1 := k1.all6.1
      have hB := below1 w (.cells #[.int .i64 6, .string t, .int .u32 ((0 : Nat) : Int), .bool true, .bool false, .int .i64 (v : Int)] 24)
      have HZ : writeSg ⟨6, t, 0, true, false, (v : Int)⟩ = [UInt8.ofNat (v + 8)] := by
        show [UInt8.ofNat (turnN ⟨6, t, 0, true, false, (v : Int)⟩)] = _
        unfold turnN
        simp
      have hx := Bs.lit1 (w.alloc (.cells #[.int .i64 6, .string t, .int .u32 ((0 : Nat) : Int), .bool true, .bool false, .int .i64 (v : Int)] 24)) (UInt8.ofNat (v + 8)) 5
      unfold byteV at hx
      rw [toNat_ofNat (show v + 8 < 256 by omega), show ((v + 8 : Nat) : Int) = (v : Int) + 8 by omega, World.size_alloc] at hx
      rw [HZ]
      clear HZ
      go_enter Try.func9, Try.ntmps9
      go_wp2_with fail
      go_ret
      exact ⟨_, _, rfl, hx, hB.alloc (by simp) _⟩
    · have k1 := Box.new w [.int .i64 6, .string t, .int .u32 ((0 : Nat) : Int), .bool true, .bool true, .int .i64 (v : Int)] 24
      have f1 := k1.all6.1
      have hB := below1 w (.cells #[.int .i64 6, .string t, .int .u32 ((0 : Nat) : Int), .bool true, .bool true, .int .i64 (v : Int)] 24)
      have HZ : writeSg ⟨6, t, 0, true, true, (v : Int)⟩ = [UInt8.ofNat (v + 4 + 8)] := by
        show [UInt8.ofNat (turnN ⟨6, t, 0, true, true, (v : Int)⟩)] = _
        unfold turnN
        simp
      have hx := Bs.lit1 (w.alloc (.cells #[.int .i64 6, .string t, .int .u32 ((0 : Nat) : Int), .bool true, .bool true, .int .i64 (v : Int)] 24)) (UInt8.ofNat (v + 4 + 8)) 5
      unfold byteV at hx
      rw [toNat_ofNat (show v + 4 + 8 < 256 by omega), show ((v + 4 + 8 : Nat) : Int) = (v : Int) + 4 + 8 by omega, World.size_alloc] at hx
      rw [HZ]
      clear HZ
      go_enter Try.func9, Try.ntmps9
      go_wp2_with fail
      go_ret
      exact ⟨_, _, rfl, hx, hB.alloc (by simp) _⟩

end Go.Proofs.Ytnmnbiphonjlaaa

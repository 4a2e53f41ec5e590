/-
  What the functions of package sign come to: Right, Write, Read, Canon. (Written by gen_SignG2.py.)
-/
import Derived.Test.YtnmnbiphonjlaaaSignG
import Derived.Test.YtnmnbiphonjlaaaBase
namespace Go.Proofs.Ytnmnbiphonjlaaa
open Go.RowKit
set_option linter.unusedVariables false
set_option linter.unusedSimpArgs false

theorem right_form {p : Sg} (hk : p.kind = 3 ∨ p.kind = 4 ∨ p.kind = 5 ∨ p.kind = 6) (h : SgOk p) : rightSg p = decide (p = signF p.kind (numF p)) := by
  have hn := h.2.1
  have hu := bound_i64 h.2.2.2
  clear h
  obtain ⟨k, t, n, a, b, u⟩ := p
  dsimp only at hk hn hu ⊢
  rcases hk with rfl | rfl | rfl | rfl
  all_goals
    unfold rightSg signF numF
    dsimp only
    simp only [Sg.eq_iff]
    rw [Bool.eq_iff_iff]
    by_cases hs : t.size = 0
    · obtain rfl := text_nil hs
      have e0 : (ByteArray.mk #[] = ByteArray.empty) = True := eq_true rfl
      cases a <;> cases b <;> simp [e0] <;> omega
    · have hs2 : ¬ t = ⟨#[]⟩ := fun e => hs (by rw [e]; rfl)
      have hs3 : ¬ t = ByteArray.empty := fun e => hs (by rw [e]; rfl)
      simp [hs, hs2, hs3]
theorem write_form {p : Sg} (hk : p.kind = 3 ∨ p.kind = 4 ∨ p.kind = 5 ∨ p.kind = 6) (h : rightSg p = true) : numF p < 256 ^ sizeF p.kind ∧ writeSg p = be (sizeF p.kind) (numF p) := by
  rcases hk with hk | hk | hk | hk
  · have := right_3 h hk
    unfold writeSg numF sizeF
    simp only [hk]
    exact ⟨by simp; omega, by simp⟩
  · have := right_4 h hk
    unfold writeSg numF sizeF
    simp only [hk]
    refine ⟨?_, by simp [be]⟩
    simp
    split <;> omega
  · have := right_5 h hk
    unfold writeSg numF sizeF
    simp only [hk]
    exact ⟨by simp; omega, by simp⟩
  · have h6 := right_6 h hk
    have e : numF p = turnN p := by
      unfold numF turnN
      rw [if_neg (by omega), if_pos hk]
      cases p.a <;> cases p.b <;> simp <;> omega
    rw [e]
    unfold writeSg sizeF
    simp only [hk]
    refine ⟨?_, by simp [be]⟩
    unfold turnN
    cases p.a <;> cases p.b <;> simp <;> omega
theorem read_form {k : Int} {s : List UInt8} (hk : k = 3 ∨ k = 4 ∨ k = 5 ∨ k = 6) (h : s.length = sizeF k) : signE k s = 0 ∧ readSg k s = signF k (num s) := by
  have he : signE k s = 0 := by
    unfold signE
    rcases hk with rfl | rfl | rfl | rfl <;> simp [sizeF] at h <;> simp [lenK, h]
  refine ⟨he, ?_⟩
  unfold readSg
  rw [if_pos he]
  have hl := num_lt s
  rw [h] at hl
  rcases hk with rfl | rfl | rfl | rfl
  · simp [sizeF] at hl h
    simp only [signV, signF]
    simp
    omega
  · simp [sizeF] at hl h
    obtain ⟨x, rfl⟩ := List.length_eq_one_iff.1 h
    have hx : num [x] = x.toNat := by simp [num]
    have := x.toNat_lt
    simp only [signV, signF, hx]
    simp [bt]
    omega
  · simp [sizeF] at hl h
    simp only [signV, signF]
    simp
    omega
  · simp [sizeF] at hl h
    obtain ⟨x, rfl⟩ := List.length_eq_one_iff.1 h
    have hx : num [x] = x.toNat := by simp [num]
    simp only [signV, signF, hx]
    simp [bt]
theorem read_size {k : Int} {s : List UInt8} (hk : k = 3 ∨ k = 4 ∨ k = 5 ∨ k = 6) (h : s.length ≠ sizeF k) : signE k s = 4 ∧ readSg k s = zeroSg := by
  have he : signE k s = 4 := by
    unfold signE
    rcases hk with rfl | rfl | rfl | rfl <;> simp [sizeF] at h <;> simp [lenK, h]
  refine ⟨he, ?_⟩
  unfold readSg
  rw [he]
  rfl

theorem num_plain (s M : Nat) (p : Sg) (hk : p.kind = 3 ∧ s = 3 ∧ M = 16777216 ∨ p.kind = 5 ∧ s = 2 ∧ M = 65536) (h : SgOk p) (w : World) : Calls Try.prog 46 #[.agg #[.int .i64 (s : Int)], sgV p] w (Says w (.int .u64 (numF p : Int))) := by
  have e : numF p = p.num := by unfold numF; rw [if_neg (by omega), if_neg (by omega)]
  rw [e]
  exact plain_number s p w h
theorem sgn_plain (s M : Nat) (k : Int) (hk : k = 3 ∧ s = 3 ∧ M = 16777216 ∨ k = 5 ∧ s = 2 ∧ M = 65536) (v : Nat) (hv : v < 18446744073709551616) (w : World) : Calls Try.prog 47 #[.agg #[.int .i64 (s : Int)], .int .i64 k, .int .u64 (v : Int)] w (Says w (sgV (signF k v))) := by
  rcases hk with ⟨rfl, rfl, rfl⟩ | ⟨rfl, rfl, rfl⟩
  · exact plain_sign 3 3 v 16777216 w (by omega) hv
  · exact plain_sign 2 5 v 65536 w (by omega) hv
set_option maxHeartbeats 1000000 in
theorem sright_plain (s M : Nat) (p : Sg) (hk : p.kind = 3 ∧ s = 3 ∧ M = 16777216 ∨ p.kind = 5 ∧ s = 2 ∧ M = 65536) (h : SgOk p) (w : World) : Calls Try.prog 12 #[sgV p] w (Says w (.bool (rightSg p))) := by
  rw [right_form (by rcases hk with ⟨h1, _⟩ | ⟨h1, _⟩ <;> omega) h]
  have HF : Hid (∀ W : World, Calls Try.prog 16 #[.int .i64 p.kind] W fun e w' => e = .returned (.tuple #[plainF (s : Int), .bool true]) ∧ w' = W) := Lib.hid (fun W => formOf_plain p.kind s W (by rcases hk with ⟨h1, h2, _⟩ | ⟨h1, h2, _⟩ <;> omega))
  have HN := Lib.hid (fun W => num_plain s M p hk h W)
  have HS := Lib.hid (fun W => sgn_plain s M p.kind hk (numF p) (numF_lt h) W)
  have HQ := fun W => eqSg p (signF p.kind (numF p)) W
  clear h hk
  generalize hq : signF p.kind (numF p) = q at *
  clear hq
  generalize decide (p = q) = z at *
  generalize numF p = v at *
  obtain ⟨k, t, n, a, b, u⟩ := p
  obtain ⟨k2, t2, n2, a2, b2, u2⟩ := q
  dsimp only [sgV] at HF HN HS HQ ⊢
  have hmf : ∀ (fn : Fn) (first cap : Array Value) (w : World), (Instr.makeFunc fn first cap).run Try.prog w = .ok (.func fn first cap) w := fun _ _ _ _ => rfl
  have ma := @assert_num_plain
  have m1 := @met_plain_number
  have m2 := @met_plain_sign
  have m3 := @ahead_plain
  have k1 := Box.new w [.int .i64 k, .string t, .int .u32 (n : Int), .bool a, .bool b, .int .i64 u] 24
  have f1 := k1.all6.1
  have hB := below1 w (.cells #[.int .i64 k, .string t, .int .u32 (n : Int), .bool a, .bool b, .int .i64 u] 24)
  go_enter Try.func12, Try.ntmps12
  go_wp2_with fail
  refine (HF.out _).mono ?_
  rintro e w' ⟨rfl, rfl⟩
  go_wp2_with fail
  go_region_held3 (fun W => W.cell? ⟨w.heap.size, 0, none⟩ = some (.int .i64 k) ∧ W.cell? ⟨w.heap.size, 1, none⟩ = some (.string t) ∧ W.cell? ⟨w.heap.size, 2, none⟩ = some (.int .u32 (n : Int)) ∧ W.cell? ⟨w.heap.size, 3, none⟩ = some (.bool a) ∧ W.cell? ⟨w.heap.size, 4, none⟩ = some (.bool b) ∧ W.cell? ⟨w.heap.size, 5, none⟩ = some (.int .i64 u))
    (go_keep)
    (first
      | (go_at_call 46; refine (HN.out _).mono ?_; rintro e w2 ⟨rfl, hb2⟩; have hB2 := hB.drew.trans (hb2.mono (by first | exact hB.size | simpa using hB.size)); have k2 := Box.call (w := (w.alloc (.cells #[.int .i64 k, .string t, .int .u32 (n : Int), .bool a, .bool b, .int .i64 u] 24)).drew) k1 hb2; have f2 := k2.all6.1)
      | (go_at_call 47; refine (HS.out _).mono ?_; rintro e w3 ⟨rfl, hb3⟩; have hB3 := hB2.trans (hb3.mono hB2.size); have k3 := k2.call hb3; have f3 := k3.all6.1))
  all_goals
    go_wp2_with fail
    go_ret
    exact ⟨rfl, hB3⟩

theorem num_level (p : Sg) (hk : p.kind = 4) (h : SgOk p) (w : World) : Calls Try.prog 48 #[.agg #[.int .i64 1], sgV p] w (Says w (.int .u64 (numF p : Int))) := by
  exact level_number p w h hk
theorem sgn_level (k : Int) (hk : k = 4) (v : Nat) (hv : v < 18446744073709551616) (w : World) : Calls Try.prog 49 #[.agg #[.int .i64 1], .int .i64 k, .int .u64 (v : Int)] w (Says w (sgV (signF k v))) := by
  subst hk
  exact level_sign 4 v w hv
set_option maxHeartbeats 1000000 in
theorem sright_level (p : Sg) (hk : p.kind = 4) (h : SgOk p) (w : World) : Calls Try.prog 12 #[sgV p] w (Says w (.bool (rightSg p))) := by
  rw [right_form (by omega) h]
  have HF : Hid (∀ W : World, Calls Try.prog 16 #[.int .i64 p.kind] W fun e w' => e = .returned (.tuple #[levelF, .bool true]) ∧ w' = W) := Lib.hid (fun W => by rw [hk]; exact formOf_level W)
  have HN := Lib.hid (fun W => num_level p hk h W)
  have HS := Lib.hid (fun W => sgn_level p.kind hk (numF p) (numF_lt h) W)
  have HQ := fun W => eqSg p (signF p.kind (numF p)) W
  clear h hk
  generalize hq : signF p.kind (numF p) = q at *
  clear hq
  generalize decide (p = q) = z at *
  generalize numF p = v at *
  obtain ⟨k, t, n, a, b, u⟩ := p
  obtain ⟨k2, t2, n2, a2, b2, u2⟩ := q
  dsimp only [sgV] at HF HN HS HQ ⊢
  have hmf : ∀ (fn : Fn) (first cap : Array Value) (w : World), (Instr.makeFunc fn first cap).run Try.prog w = .ok (.func fn first cap) w := fun _ _ _ _ => rfl
  have ma := @assert_num_level
  have m1 := @met_level_number
  have m2 := @met_level_sign
  have m3 := @ahead_level
  have k1 := Box.new w [.int .i64 k, .string t, .int .u32 (n : Int), .bool a, .bool b, .int .i64 u] 24
  have f1 := k1.all6.1
  have hB := below1 w (.cells #[.int .i64 k, .string t, .int .u32 (n : Int), .bool a, .bool b, .int .i64 u] 24)
  go_enter Try.func12, Try.ntmps12
  go_wp2_with fail
  refine (HF.out _).mono ?_
  rintro e w' ⟨rfl, rfl⟩
  go_wp2_with fail
  go_region_held3 (fun W => W.cell? ⟨w.heap.size, 0, none⟩ = some (.int .i64 k) ∧ W.cell? ⟨w.heap.size, 1, none⟩ = some (.string t) ∧ W.cell? ⟨w.heap.size, 2, none⟩ = some (.int .u32 (n : Int)) ∧ W.cell? ⟨w.heap.size, 3, none⟩ = some (.bool a) ∧ W.cell? ⟨w.heap.size, 4, none⟩ = some (.bool b) ∧ W.cell? ⟨w.heap.size, 5, none⟩ = some (.int .i64 u))
    (go_keep)
    (first
      | (go_at_call 48; refine (HN.out _).mono ?_; rintro e w2 ⟨rfl, hb2⟩; have hB2 := hB.drew.trans (hb2.mono (by first | exact hB.size | simpa using hB.size)); have k2 := Box.call (w := (w.alloc (.cells #[.int .i64 k, .string t, .int .u32 (n : Int), .bool a, .bool b, .int .i64 u] 24)).drew) k1 hb2; have f2 := k2.all6.1)
      | (go_at_call 49; refine (HS.out _).mono ?_; rintro e w3 ⟨rfl, hb3⟩; have hB3 := hB2.trans (hb3.mono hB2.size); have k3 := k2.call hb3; have f3 := k3.all6.1))
  all_goals
    go_wp2_with fail
    go_ret
    exact ⟨rfl, hB3⟩

theorem num_turn (p : Sg) (hk : p.kind = 6) (h : SgOk p) (w : World) : Calls Try.prog 51 #[.agg #[.int .i64 1], sgV p] w (Says w (.int .u64 (numF p : Int))) := by
  exact turn_number p w h hk
theorem sgn_turn (k : Int) (hk : k = 6) (v : Nat) (hv : v < 18446744073709551616) (w : World) : Calls Try.prog 52 #[.agg #[.int .i64 1], .int .i64 k, .int .u64 (v : Int)] w (Says w (sgV (signF k v))) := by
  subst hk
  exact turn_sign 6 v w hv
set_option maxHeartbeats 1000000 in
theorem sright_turn (p : Sg) (hk : p.kind = 6) (h : SgOk p) (w : World) : Calls Try.prog 12 #[sgV p] w (Says w (.bool (rightSg p))) := by
  rw [right_form (by omega) h]
  have HF : Hid (∀ W : World, Calls Try.prog 16 #[.int .i64 p.kind] W fun e w' => e = .returned (.tuple #[turnF, .bool true]) ∧ w' = W) := Lib.hid (fun W => by rw [hk]; exact formOf_turn W)
  have HN := Lib.hid (fun W => num_turn p hk h W)
  have HS := Lib.hid (fun W => sgn_turn p.kind hk (numF p) (numF_lt h) W)
  have HQ := fun W => eqSg p (signF p.kind (numF p)) W
  clear h hk
  generalize hq : signF p.kind (numF p) = q at *
  clear hq
  generalize decide (p = q) = z at *
  generalize numF p = v at *
  obtain ⟨k, t, n, a, b, u⟩ := p
  obtain ⟨k2, t2, n2, a2, b2, u2⟩ := q
  dsimp only [sgV] at HF HN HS HQ ⊢
  have hmf : ∀ (fn : Fn) (first cap : Array Value) (w : World), (Instr.makeFunc fn first cap).run Try.prog w = .ok (.func fn first cap) w := fun _ _ _ _ => rfl
  have ma := @assert_num_turn
  have m1 := @met_turn_number
  have m2 := @met_turn_sign
  have m3 := @ahead_turn
  have k1 := Box.new w [.int .i64 k, .string t, .int .u32 (n : Int), .bool a, .bool b, .int .i64 u] 24
  have f1 := k1.all6.1
  have hB := below1 w (.cells #[.int .i64 k, .string t, .int .u32 (n : Int), .bool a, .bool b, .int .i64 u] 24)
  go_enter Try.func12, Try.ntmps12
  go_wp2_with fail
  refine (HF.out _).mono ?_
  rintro e w' ⟨rfl, rfl⟩
  go_wp2_with fail
  go_region_held3 (fun W => W.cell? ⟨w.heap.size, 0, none⟩ = some (.int .i64 k) ∧ W.cell? ⟨w.heap.size, 1, none⟩ = some (.string t) ∧ W.cell? ⟨w.heap.size, 2, none⟩ = some (.int .u32 (n : Int)) ∧ W.cell? ⟨w.heap.size, 3, none⟩ = some (.bool a) ∧ W.cell? ⟨w.heap.size, 4, none⟩ = some (.bool b) ∧ W.cell? ⟨w.heap.size, 5, none⟩ = some (.int .i64 u))
    (go_keep)
    (first
      | (go_at_call 51; refine (HN.out _).mono ?_; rintro e w2 ⟨rfl, hb2⟩; have hB2 := hB.drew.trans (hb2.mono (by first | exact hB.size | simpa using hB.size)); have k2 := Box.call (w := (w.alloc (.cells #[.int .i64 k, .string t, .int .u32 (n : Int), .bool a, .bool b, .int .i64 u] 24)).drew) k1 hb2; have f2 := k2.all6.1)
      | (go_at_call 52; refine (HS.out _).mono ?_; rintro e w3 ⟨rfl, hb3⟩; have hB3 := hB2.trans (hb3.mono hB2.size); have k3 := k2.call hb3; have f3 := k3.all6.1))
  all_goals
    go_wp2_with fail
    go_ret
    exact ⟨rfl, hB3⟩

theorem sright_word (p : Sg) (hk : p.kind = 1 ∨ p.kind = 2) (h : SgOk p) (w : World) : Calls Try.prog 12 #[sgV p] w (Says w (.bool (rightSg p))) := by
  obtain ⟨z, hz⟩ : ∃ z, rightSg p = z := ⟨_, rfl⟩
  have HR : Hid (z = (tokenB p.text.data.toList && decide (p.num = 0 ∧ p.a = false ∧ p.b = false ∧ p.turns = 0))) := Lib.hid (by
    rw [← hz]
    unfold rightSg
    rw [if_pos hk])
  rw [hz]
  have HF : Hid (∀ W : World, Calls Try.prog 16 #[.int .i64 p.kind] W fun e w' => e = .returned (.tuple #[wordF, .bool true]) ∧ w' = W) := Lib.hid (fun W => formOf_word _ W hk)
  have HT := Lib.hid (fun W => tok_any p.text W h.1)
  clear h hk hz
  generalize tokenB p.text.data.toList = y at *
  obtain ⟨k, t, n, a, b, u⟩ := p
  dsimp only [sgV] at HF HT HR ⊢
  have ma := @assert_num_word
  have k1 := Box.new w [.int .i64 k, .string t, .int .u32 (n : Int), .bool a, .bool b, .int .i64 u] 24
  have f1 := k1.all6.1
  have hB := below1 w (.cells #[.int .i64 k, .string t, .int .u32 (n : Int), .bool a, .bool b, .int .i64 u] 24)
  go_enter Try.func12, Try.ntmps12
  go_wp2_with fail
  refine (HF.out _).mono ?_
  rintro e w' ⟨rfl, rfl⟩
  go_wp2_with fail
  refine (HT.out _).mono ?_
  rintro e w2 ⟨rfl, hb2⟩
  have hB2 := hB.trans (hb2.mono hB.size)
  have k2 := k1.call hb2
  have f2 := k2.all6.1
  cases y
  · go_wp2_with fail
    go_ret
    exact ⟨by rw [HR.out]; rfl, hB2⟩
  · go_wp2_with fail
    all_goals
      go_ret
      refine ⟨?_, hB2⟩
      rw [HR.out]
      first
        | (simp [*]; done)
        | (simp [*]; rw [Bool.eq_iff_iff]; simp; done)
        | (simp_all; done)
        | (simp [*]; omega)
        | (simp; omega)
theorem sright_none (p : Sg) (hk : p.kind < 1 ∨ 6 < p.kind) (w : World) : Calls Try.prog 12 #[sgV p] w (Says w (.bool (rightSg p))) := by
  have hr : rightSg p = false := by
    unfold rightSg
    rw [if_neg (by omega), if_neg (by omega), if_neg (by omega), if_neg (by omega), if_neg (by omega)]
  rw [hr]
  have HF := Lib.hid (fun W => formOf_none p.kind W hk)
  clear hk hr
  obtain ⟨k, t, n, a, b, u⟩ := p
  dsimp only [sgV] at HF ⊢
  have k1 := Box.new w [.int .i64 k, .string t, .int .u32 (n : Int), .bool a, .bool b, .int .i64 u] 24
  have f1 := k1.all6.1
  go_enter Try.func12, Try.ntmps12
  go_wp2_with fail
  refine (HF.out _).mono ?_
  rintro e w' ⟨rfl, rfl⟩
  go_wp2_with fail
  go_ret
  exact ⟨rfl, below1 _ _⟩
theorem sright_any (p : Sg) (h : SgOk p) (w : World) : Calls Try.prog 12 #[sgV p] w (Says w (.bool (rightSg p))) := by
  rcases (show p.kind = 1 ∨ p.kind = 2 ∨ p.kind = 3 ∨ p.kind = 4 ∨ p.kind = 5 ∨ p.kind = 6 ∨ (p.kind < 1 ∨ 6 < p.kind) by omega) with e | e | e | e | e | e | e
  · exact sright_word p (.inl e) h w
  · exact sright_word p (.inr e) h w
  · exact sright_plain 3 16777216 p (.inl ⟨e, rfl, rfl⟩) h w
  · exact sright_level p e h w
  · exact sright_plain 2 65536 p (.inr ⟨e, rfl, rfl⟩) h w
  · exact sright_turn p e h w
  · exact sright_none p e w

theorem swrite_no (p : Sg) (h : SgOk p) (hr : rightSg p = false) (w : World) : Calls Try.prog 8 #[sgV p] w (GivesSB w [] 1) := by
  have HR := Lib.hid (fun W => sright_any p h W)
  rw [hr] at HR
  clear h hr
  obtain ⟨k, t, n, a, b, u⟩ := p
  dsimp only [sgV] at HR ⊢
  have k1 := Box.new w [.int .i64 k, .string t, .int .u32 (n : Int), .bool a, .bool b, .int .i64 u] 24
  have f1 := k1.all6.1
  have hB := below1 w (.cells #[.int .i64 k, .string t, .int .u32 (n : Int), .bool a, .bool b, .int .i64 u] 24)
  go_enter Try.func8, Try.ntmps8
  go_wp2_with fail
  refine (HR.out _).mono ?_
  rintro e w2 ⟨rfl, hb2⟩
  go_wp2_with fail
  go_ret2
  exact ⟨none, 0, rfl, Bs.nil _, hB.trans (hb2.mono hB.size)⟩
theorem swrite_word (p : Sg) (hk : p.kind = 1 ∨ p.kind = 2) (h : SgOk p) (hr : rightSg p = true) (w : World) : Calls Try.prog 8 #[sgV p] w (GivesSB w (writeSg p) 0) := by
  have e : writeSg p = p.text.data.toList := by unfold writeSg; rw [if_neg (by omega), if_neg (by omega), if_neg (by omega), if_neg (by omega)]
  rw [e]
  have HR := Lib.hid (fun W => sright_any p h W)
  rw [hr] at HR
  have HF : Hid (∀ W : World, Calls Try.prog 16 #[.int .i64 p.kind] W fun e w' => e = .returned (.tuple #[wordF, .bool true]) ∧ w' = W) := Lib.hid (fun W => formOf_word _ W hk)
  have hs := h.1
  clear h hr hk e
  obtain ⟨k, t, n, a, b, u⟩ := p
  dsimp only [sgV] at HR HF hs ⊢
  have ma := @assert_word_word
  have hsl := size_list t
  have k1 := Box.new w [.int .i64 k, .string t, .int .u32 (n : Int), .bool a, .bool b, .int .i64 u] 24
  have f1 := k1.all6.1
  have hB := below1 w (.cells #[.int .i64 k, .string t, .int .u32 (n : Int), .bool a, .bool b, .int .i64 u] 24)
  go_enter Try.func8, Try.ntmps8
  go_wp2_with fail
  refine (HR.out _).mono ?_
  rintro e w2 ⟨rfl, hb2⟩
  have hB2 := hB.trans (hb2.mono hB.size)
  have k2 := k1.call hb2
  have f2 := k2.all6.1
  go_wp2_with fail
  refine (HF.out _).mono ?_
  rintro e w2 ⟨rfl, rfl⟩
  have k3 := k2.alloc (.cells #[] 48)
  have hB3 := hB2.alloc hB2.size (.cells #[] 48)
  have f3 := k3.all6.1
  obtain ⟨A2, c2, w4, hr2, hs2, hb4⟩ := conv_bytes (P := Try.prog) 9 25 5 Try.underlying9 Try.underlying25 Try.underlying5 t (by omega) (w2.alloc (.cells #[] 48))
  have hlen := Lib.hid hsl
  clear hsl hs
  go_wp2_with fail
  go_ret2
  exact ⟨A2, c2, by rw [hlen.out]; rfl, by rw [hlen.out]; exact hs2, hB3.trans (hb4.mono hB3.size)⟩

theorem swrite_plain (s M : Nat) (p : Sg) (hk : p.kind = 3 ∧ s = 3 ∧ M = 16777216 ∨ p.kind = 5 ∧ s = 2 ∧ M = 65536) (h : SgOk p) (hr : rightSg p = true) (w : World) : Calls Try.prog 8 #[sgV p] w (GivesSB w (writeSg p) 0) := by
  have hsz : sizeF p.kind = s := by rcases hk with ⟨h1, rfl, _⟩ | ⟨h1, rfl, _⟩ <;> (unfold sizeF; rw [h1]; rfl)
  obtain ⟨hlt, e⟩ := write_form (by rcases hk with ⟨h1, _⟩ | ⟨h1, _⟩ <;> omega) hr
  rw [hsz] at e hlt
  rw [e]
  have HR := Lib.hid (fun W => sright_any p h W)
  rw [hr] at HR
  have HF : Hid (∀ W : World, Calls Try.prog 16 #[.int .i64 p.kind] W fun e w' => e = .returned (.tuple #[plainF (s : Int), .bool true]) ∧ w' = W) := Lib.hid (fun W => formOf_plain p.kind s W (by rcases hk with ⟨h1, h2, _⟩ | ⟨h1, h2, _⟩ <;> omega))
  have HN := Lib.hid (fun W => num_plain s M p hk h W)
  have HZ : Hid (∀ W : World, Calls Try.prog 44 #[.int .i64 (s : Nat)] W fun e w' => e = .returned (.int .i64 (s : Nat)) ∧ w' = W) := Lib.hid (fun W => width_size _ W)
  have HP : Hid (∀ W : World, Calls Try.prog 17 #[.int .u64 (numF p : Int), .int .i64 (s : Nat)] W fun e w' => GivesBE W 5 (be s (numF p)) 0 e w') := Lib.hid (fun W => by
    have h1 := put_any (numF p) (s : Nat) W (numF_lt h)
    obtain ⟨e1, e2⟩ := putE_yes (v := numF p) (n := s) (by rcases hk with ⟨_, rfl, _⟩ | ⟨_, rfl, _⟩ <;> omega) (by rcases hk with ⟨_, rfl, _⟩ | ⟨_, rfl, _⟩ <;> omega) hlt
    rw [e1, e2] at h1
    exact h1)
  clear h hr hk e hlt hsz
  generalize numF p = v at *
  obtain ⟨X, hX⟩ : ∃ X, be s v = X := ⟨_, rfl⟩
  rw [hX] at HP ⊢
  have hXl := Lib.hid (show X.length = s by rw [← hX, be_length])
  clear hX
  obtain ⟨k, t, n, a, b, u⟩ := p
  dsimp only [sgV] at HR HF HN HZ HP ⊢
  have ma := @assert_word_plain
  have mb := @must_num_plain
  have m1 := @met_plain_number
  have m2 := @met_plain_size
  have k1 := Box.new w [.int .i64 k, .string t, .int .u32 (n : Int), .bool a, .bool b, .int .i64 u] 24
  have f1 := k1.all6.1
  have hB := below1 w (.cells #[.int .i64 k, .string t, .int .u32 (n : Int), .bool a, .bool b, .int .i64 u] 24)
  go_enter Try.func8, Try.ntmps8
  go_wp2_with fail
  refine (HR.out _).mono ?_
  rintro e w2 ⟨rfl, hb2⟩
  have hB2 := hB.trans (hb2.mono hB.size)
  have k2 := k1.call hb2
  have f2 := k2.all6.1
  go_wp2_with fail
  refine (HF.out _).mono ?_
  rintro e w' ⟨rfl, rfl⟩
  have k3 := k2.alloc (.cells #[] 48)
  have hB3 := hB2.alloc hB2.size (.cells #[] 48)
  have f3 := k3.all6.1
  go_wp2_with fail
  refine (HN.out _).mono ?_
  rintro e w4 ⟨rfl, hb4⟩
  have hB4 := hB3.trans (hb4.mono hB3.size)
  go_wp2_with fail
  refine (HZ.out _).mono ?_
  rintro e w' ⟨rfl, rfl⟩
  go_wp2_with fail
  refine (HP.out _).mono ?_
  rintro e w5 ⟨A5, c5, rfl, hs5, hb5⟩
  go_wp2_with fail
  go_ret2
  exact ⟨A5, c5, rfl, hs5.bs, hB4.trans (hb5.mono hB4.size)⟩

theorem sread_plain (s M : Nat) (k : Int) (hk : k = 3 ∧ s = 3 ∧ M = 16777216 ∨ k = 5 ∧ s = 2 ∧ M = 65536) (A : Option Addr) (n c : Nat) (s' : List UInt8) (w : World) (hs : Bs w A n c s') : Calls Try.prog 10 #[.int .i64 k, .slice A n c] w (Says w (.tuple #[sgV (readSg k s'), .int .i64 (signE k s')])) := by
  have hsz : sizeF k = s := by rcases hk with ⟨h1, rfl, _⟩ | ⟨h1, rfl, _⟩ <;> (unfold sizeF; rw [h1]; rfl)
  have hkk : k = 3 ∨ k = 4 ∨ k = 5 ∨ k = 6 := (by rcases hk with ⟨h1, _⟩ | ⟨h1, _⟩ <;> omega)
  have hl := hs.len
  have HF : Hid (∀ W : World, Calls Try.prog 16 #[.int .i64 k] W fun e w' => e = .returned (.tuple #[plainF (s : Int), .bool true]) ∧ w' = W) := Lib.hid (fun W => formOf_plain k s W (by rcases hk with ⟨h1, h2, _⟩ | ⟨h1, h2, _⟩ <;> omega))
  have HTk : Hid (∀ W : World, Calls Try.prog 45 #[.int .i64 (s : Nat), .int .i64 (n : Int)] W fun e w' => e = .returned (.bool ((n : Int) == ((s : Nat) : Int))) ∧ w' = W) := Lib.hid (fun W => width_takes _ _ W)
  have ma := @assert_num_plain
  have m1 := @met_plain_takes
  have m2 := @met_plain_size
  have m3 := @met_plain_sign
  by_cases hn : n = s
  · obtain ⟨e1, e2⟩ := read_form hkk (s := s') (by rw [hl, hsz]; exact hn)
    rw [e1, e2]
    have hnb : Hid (((n : Int) == ((s : Nat) : Int)) = true) := Lib.hid (by rw [beq_iff_eq]; omega)
    rw [hnb.out] at HTk
    have HZ : Hid (∀ W : World, Calls Try.prog 44 #[.int .i64 (s : Nat)] W fun e w' => e = .returned (.int .i64 (s : Nat)) ∧ w' = W) := Lib.hid (fun W => width_size _ W)
    have hv : num s' < 18446744073709551616 := by
      have h1 := num_lt s'
      have h2 := pow256_le (n := s'.length) (by rw [hl, hn]; (rcases hk with ⟨_, rfl, _⟩ | ⟨_, rfl, _⟩ <;> omega))
      omega
    have HG : Hid (∀ W A c, Bs W A n c s' → Calls Try.prog 19 #[.slice A n c, .int .i64 0, .int .i64 (s : Nat)] W fun e w' => e = .returned (.tuple #[.int .u64 (num s' : Int), .int .i64 0]) ∧ W = w') := Lib.hid (fun W A c h => by
      have h1 := get_yes A n c s' 0 s W h (by rcases hk with ⟨_, rfl, _⟩ | ⟨_, rfl, _⟩ <;> omega) (by rcases hk with ⟨_, rfl, _⟩ | ⟨_, rfl, _⟩ <;> omega) (by omega)
      rw [List.drop_zero, List.take_of_length_le (by omega)] at h1
      exact h1)
    have HS := Lib.hid (fun W => sgn_plain s M k hk (num s') hv W)
    clear hkk e1 e2 hl hv hsz hn hk
    generalize num s' = v at *
    generalize signF k v = q at *
    obtain ⟨k', t, m, a, b, u⟩ := q
    dsimp only [sgV] at HS ⊢
    have hz := fun W => Box.new W [.int .i64 0, .string ⟨#[]⟩, .int .u32 0, .bool false, .bool false, .int .i64 0] 24
    have hs1 := hs.alloc (.cells #[.int .i64 0, .string ⟨#[]⟩, .int .u32 0, .bool false, .bool false, .int .i64 0] 24)
    have hB1 := below1 w (.cells #[.int .i64 0, .string ⟨#[]⟩, .int .u32 0, .bool false, .bool false, .int .i64 0] 24)
    have k1 := Box.new w [.int .i64 0, .string ⟨#[]⟩, .int .u32 0, .bool false, .bool false, .int .i64 0] 24
    clear hz
    have HG1 := Lib.hid (HG.out _ _ _ hs1)
    go_enter Try.func10, Try.ntmps10
    go_wp2_with fail
    refine (HF.out _).mono ?_
    rintro e w' ⟨rfl, rfl⟩
    go_wp2_with fail
    refine (HTk.out _).mono ?_
    rintro e w' ⟨rfl, rfl⟩
    go_wp2_with fail
    refine (HZ.out _).mono ?_
    rintro e w' ⟨rfl, rfl⟩
    go_wp2_with fail
    refine (HG1.out).mono ?_
    rintro e w' ⟨rfl, rfl⟩
    go_wp2_with fail
    refine (HS.out _).mono ?_
    rintro e w3 ⟨rfl, hb3⟩
    have hB3 := hB1.trans (hb3.mono hB1.size)
    have k3 := k1.call hb3
    have f3 := k3.all6.1
    have g3 := k3.free6
    go_wp2_with fail
    have k4 := k3.put6 (.int .i64 k') (.string t) (.int .u32 (m : Int)) (.bool a) (.bool b) (.int .i64 u)
    have f4 := k4.all6.1
    have hB4 := below_put6 hB3 (Nat.le_refl _) (.int .i64 k') (.string t) (.int .u32 (m : Int)) (.bool a) (.bool b) (.int .i64 u)
    clear f3 g3 k3 k4
    dsimp only [put6] at f4 hB4
    exact bodyPost_ret (v := .tuple #[.agg #[.int .i64 k', .string t, .int .u32 (m : Int), .bool a, .bool b, .int .i64 u], .int .i64 0]) (by simp [results, Try.results10, go_sem, f4]) rfl ⟨rfl, hB4⟩
  · obtain ⟨e1, e2⟩ := read_size hkk (s := s') (by rw [hl, hsz]; exact hn)
    rw [e1, e2]
    have hnb : Hid (((n : Int) == ((s : Nat) : Int)) = false) := Lib.hid (by rw [beq_eq_false_iff_ne]; omega)
    rw [hnb.out] at HTk
    clear hkk e1 e2 hl hsz hn hk
    go_enter Try.func10, Try.ntmps10
    go_wp2_with fail
    refine (HF.out _).mono ?_
    rintro e w' ⟨rfl, rfl⟩
    go_wp2_with fail
    refine (HTk.out _).mono ?_
    rintro e w' ⟨rfl, rfl⟩
    go_wp2_with fail
    exact bodyPost_ret (v := .tuple #[sgV zeroSg, .int .i64 4]) (by simp [results, Try.results10, go_sem, zeroSg, *]) rfl ⟨rfl, (by first | exact below1 _ _ | exact below2 _ _ _ | exact below3 _ _ _ _)⟩

theorem swrite_level (p : Sg) (hk : p.kind = 4) (h : SgOk p) (hr : rightSg p = true) (w : World) : Calls Try.prog 8 #[sgV p] w (GivesSB w (writeSg p) 0) := by
  have hsz : sizeF p.kind = 1 := by unfold sizeF; rw [hk]; rfl
  obtain ⟨hlt, e⟩ := write_form (by omega) hr
  rw [hsz] at e hlt
  rw [e]
  have HR := Lib.hid (fun W => sright_any p h W)
  rw [hr] at HR
  have HF : Hid (∀ W : World, Calls Try.prog 16 #[.int .i64 p.kind] W fun e w' => e = .returned (.tuple #[levelF, .bool true]) ∧ w' = W) := Lib.hid (fun W => by rw [hk]; exact formOf_level W)
  have HN := Lib.hid (fun W => num_level p hk h W)
  have HZ : Hid (∀ W : World, Calls Try.prog 44 #[.int .i64 (1 : Nat)] W fun e w' => e = .returned (.int .i64 (1 : Nat)) ∧ w' = W) := Lib.hid (fun W => width_size _ W)
  have HP : Hid (∀ W : World, Calls Try.prog 17 #[.int .u64 (numF p : Int), .int .i64 (1 : Nat)] W fun e w' => GivesBE W 5 (be 1 (numF p)) 0 e w') := Lib.hid (fun W => by
    have h1 := put_any (numF p) (1 : Nat) W (numF_lt h)
    obtain ⟨e1, e2⟩ := putE_yes (v := numF p) (n := 1) (by omega) (by omega) hlt
    rw [e1, e2] at h1
    exact h1)
  clear h hr hk e hlt hsz
  generalize numF p = v at *
  obtain ⟨X, hX⟩ : ∃ X, be 1 v = X := ⟨_, rfl⟩
  rw [hX] at HP ⊢
  have hXl := Lib.hid (show X.length = 1 by rw [← hX, be_length])
  clear hX
  obtain ⟨k, t, n, a, b, u⟩ := p
  dsimp only [sgV] at HR HF HN HZ HP ⊢
  have ma := @assert_word_level
  have mb := @must_num_level
  have m1 := @met_level_number
  have m2 := @met_level_size
  have k1 := Box.new w [.int .i64 k, .string t, .int .u32 (n : Int), .bool a, .bool b, .int .i64 u] 24
  have f1 := k1.all6.1
  have hB := below1 w (.cells #[.int .i64 k, .string t, .int .u32 (n : Int), .bool a, .bool b, .int .i64 u] 24)
  go_enter Try.func8, Try.ntmps8
  go_wp2_with fail
  refine (HR.out _).mono ?_
  rintro e w2 ⟨rfl, hb2⟩
  have hB2 := hB.trans (hb2.mono hB.size)
  have k2 := k1.call hb2
  have f2 := k2.all6.1
  go_wp2_with fail
  refine (HF.out _).mono ?_
  rintro e w' ⟨rfl, rfl⟩
  have k3 := k2.alloc (.cells #[] 48)
  have hB3 := hB2.alloc hB2.size (.cells #[] 48)
  have f3 := k3.all6.1
  go_wp2_with fail
  refine (HN.out _).mono ?_
  rintro e w4 ⟨rfl, hb4⟩
  have hB4 := hB3.trans (hb4.mono hB3.size)
  go_wp2_with fail
  refine (HZ.out _).mono ?_
  rintro e w' ⟨rfl, rfl⟩
  go_wp2_with fail
  refine (HP.out _).mono ?_
  rintro e w5 ⟨A5, c5, rfl, hs5, hb5⟩
  go_wp2_with fail
  go_ret2
  exact ⟨A5, c5, rfl, hs5.bs, hB4.trans (hb5.mono hB4.size)⟩

theorem sread_level (k : Int) (hk : k = 4) (A : Option Addr) (n c : Nat) (s' : List UInt8) (w : World) (hs : Bs w A n c s') : Calls Try.prog 10 #[.int .i64 k, .slice A n c] w (Says w (.tuple #[sgV (readSg k s'), .int .i64 (signE k s')])) := by
  have hsz : sizeF k = 1 := by unfold sizeF; rw [hk]; rfl
  have hkk : k = 3 ∨ k = 4 ∨ k = 5 ∨ k = 6 := (by omega)
  have hl := hs.len
  have HF : Hid (∀ W : World, Calls Try.prog 16 #[.int .i64 k] W fun e w' => e = .returned (.tuple #[levelF, .bool true]) ∧ w' = W) := Lib.hid (fun W => by rw [hk]; exact formOf_level W)
  have HTk : Hid (∀ W : World, Calls Try.prog 45 #[.int .i64 (1 : Nat), .int .i64 (n : Int)] W fun e w' => e = .returned (.bool ((n : Int) == ((1 : Nat) : Int))) ∧ w' = W) := Lib.hid (fun W => width_takes _ _ W)
  have ma := @assert_num_level
  have m1 := @met_level_takes
  have m2 := @met_level_size
  have m3 := @met_level_sign
  by_cases hn : n = 1
  · obtain ⟨e1, e2⟩ := read_form hkk (s := s') (by rw [hl, hsz]; exact hn)
    rw [e1, e2]
    have hnb : Hid (((n : Int) == ((1 : Nat) : Int)) = true) := Lib.hid (by rw [beq_iff_eq]; omega)
    rw [hnb.out] at HTk
    have HZ : Hid (∀ W : World, Calls Try.prog 44 #[.int .i64 (1 : Nat)] W fun e w' => e = .returned (.int .i64 (1 : Nat)) ∧ w' = W) := Lib.hid (fun W => width_size _ W)
    have hv : num s' < 18446744073709551616 := by
      have h1 := num_lt s'
      have h2 := pow256_le (n := s'.length) (by rw [hl, hn]; omega)
      omega
    have HG : Hid (∀ W A c, Bs W A n c s' → Calls Try.prog 19 #[.slice A n c, .int .i64 0, .int .i64 (1 : Nat)] W fun e w' => e = .returned (.tuple #[.int .u64 (num s' : Int), .int .i64 0]) ∧ W = w') := Lib.hid (fun W A c h => by
      have h1 := get_yes A n c s' 0 1 W h (by omega) (by omega) (by omega)
      rw [List.drop_zero, List.take_of_length_le (by omega)] at h1
      exact h1)
    have HS := Lib.hid (fun W => sgn_level k hk (num s') hv W)
    clear hkk e1 e2 hl hv hsz hn hk
    generalize num s' = v at *
    generalize signF k v = q at *
    obtain ⟨k', t, m, a, b, u⟩ := q
    dsimp only [sgV] at HS ⊢
    have hz := fun W => Box.new W [.int .i64 0, .string ⟨#[]⟩, .int .u32 0, .bool false, .bool false, .int .i64 0] 24
    have hs1 := hs.alloc (.cells #[.int .i64 0, .string ⟨#[]⟩, .int .u32 0, .bool false, .bool false, .int .i64 0] 24)
    have hB1 := below1 w (.cells #[.int .i64 0, .string ⟨#[]⟩, .int .u32 0, .bool false, .bool false, .int .i64 0] 24)
    have k1 := Box.new w [.int .i64 0, .string ⟨#[]⟩, .int .u32 0, .bool false, .bool false, .int .i64 0] 24
    clear hz
    have HG1 := Lib.hid (HG.out _ _ _ hs1)
    go_enter Try.func10, Try.ntmps10
    go_wp2_with fail
    refine (HF.out _).mono ?_
    rintro e w' ⟨rfl, rfl⟩
    go_wp2_with fail
    refine (HTk.out _).mono ?_
    rintro e w' ⟨rfl, rfl⟩
    go_wp2_with fail
    refine (HZ.out _).mono ?_
    rintro e w' ⟨rfl, rfl⟩
    go_wp2_with fail
    refine (HG1.out).mono ?_
    rintro e w' ⟨rfl, rfl⟩
    go_wp2_with fail
    refine (HS.out _).mono ?_
    rintro e w3 ⟨rfl, hb3⟩
    have hB3 := hB1.trans (hb3.mono hB1.size)
    have k3 := k1.call hb3
    have f3 := k3.all6.1
    have g3 := k3.free6
    go_wp2_with fail
    have k4 := k3.put6 (.int .i64 k') (.string t) (.int .u32 (m : Int)) (.bool a) (.bool b) (.int .i64 u)
    have f4 := k4.all6.1
    have hB4 := below_put6 hB3 (Nat.le_refl _) (.int .i64 k') (.string t) (.int .u32 (m : Int)) (.bool a) (.bool b) (.int .i64 u)
    clear f3 g3 k3 k4
    dsimp only [put6] at f4 hB4
    exact bodyPost_ret (v := .tuple #[.agg #[.int .i64 k', .string t, .int .u32 (m : Int), .bool a, .bool b, .int .i64 u], .int .i64 0]) (by simp [results, Try.results10, go_sem, f4]) rfl ⟨rfl, hB4⟩
  · obtain ⟨e1, e2⟩ := read_size hkk (s := s') (by rw [hl, hsz]; exact hn)
    rw [e1, e2]
    have hnb : Hid (((n : Int) == ((1 : Nat) : Int)) = false) := Lib.hid (by rw [beq_eq_false_iff_ne]; omega)
    rw [hnb.out] at HTk
    clear hkk e1 e2 hl hsz hn hk
    go_enter Try.func10, Try.ntmps10
    go_wp2_with fail
    refine (HF.out _).mono ?_
    rintro e w' ⟨rfl, rfl⟩
    go_wp2_with fail
    refine (HTk.out _).mono ?_
    rintro e w' ⟨rfl, rfl⟩
    go_wp2_with fail
    exact bodyPost_ret (v := .tuple #[sgV zeroSg, .int .i64 4]) (by simp [results, Try.results10, go_sem, zeroSg, *]) rfl ⟨rfl, (by first | exact below1 _ _ | exact below2 _ _ _ | exact below3 _ _ _ _)⟩

theorem swrite_turn (p : Sg) (hk : p.kind = 6) (h : SgOk p) (hr : rightSg p = true) (w : World) : Calls Try.prog 8 #[sgV p] w (GivesSB w (writeSg p) 0) := by
  have hsz : sizeF p.kind = 1 := by unfold sizeF; rw [hk]; rfl
  obtain ⟨hlt, e⟩ := write_form (by omega) hr
  rw [hsz] at e hlt
  rw [e]
  have HR := Lib.hid (fun W => sright_any p h W)
  rw [hr] at HR
  have HF : Hid (∀ W : World, Calls Try.prog 16 #[.int .i64 p.kind] W fun e w' => e = .returned (.tuple #[turnF, .bool true]) ∧ w' = W) := Lib.hid (fun W => by rw [hk]; exact formOf_turn W)
  have HN := Lib.hid (fun W => num_turn p hk h W)
  have HZ : Hid (∀ W : World, Calls Try.prog 44 #[.int .i64 (1 : Nat)] W fun e w' => e = .returned (.int .i64 (1 : Nat)) ∧ w' = W) := Lib.hid (fun W => width_size _ W)
  have HP : Hid (∀ W : World, Calls Try.prog 17 #[.int .u64 (numF p : Int), .int .i64 (1 : Nat)] W fun e w' => GivesBE W 5 (be 1 (numF p)) 0 e w') := Lib.hid (fun W => by
    have h1 := put_any (numF p) (1 : Nat) W (numF_lt h)
    obtain ⟨e1, e2⟩ := putE_yes (v := numF p) (n := 1) (by omega) (by omega) hlt
    rw [e1, e2] at h1
    exact h1)
  clear h hr hk e hlt hsz
  generalize numF p = v at *
  obtain ⟨X, hX⟩ : ∃ X, be 1 v = X := ⟨_, rfl⟩
  rw [hX] at HP ⊢
  have hXl := Lib.hid (show X.length = 1 by rw [← hX, be_length])
  clear hX
  obtain ⟨k, t, n, a, b, u⟩ := p
  dsimp only [sgV] at HR HF HN HZ HP ⊢
  have ma := @assert_word_turn
  have mb := @must_num_turn
  have m1 := @met_turn_number
  have m2 := @met_turn_size
  have k1 := Box.new w [.int .i64 k, .string t, .int .u32 (n : Int), .bool a, .bool b, .int .i64 u] 24
  have f1 := k1.all6.1
  have hB := below1 w (.cells #[.int .i64 k, .string t, .int .u32 (n : Int), .bool a, .bool b, .int .i64 u] 24)
  go_enter Try.func8, Try.ntmps8
  go_wp2_with fail
  refine (HR.out _).mono ?_
  rintro e w2 ⟨rfl, hb2⟩
  have hB2 := hB.trans (hb2.mono hB.size)
  have k2 := k1.call hb2
  have f2 := k2.all6.1
  go_wp2_with fail
  refine (HF.out _).mono ?_
  rintro e w' ⟨rfl, rfl⟩
  have k3 := k2.alloc (.cells #[] 48)
  have hB3 := hB2.alloc hB2.size (.cells #[] 48)
  have f3 := k3.all6.1
  go_wp2_with fail
  refine (HN.out _).mono ?_
  rintro e w4 ⟨rfl, hb4⟩
  have hB4 := hB3.trans (hb4.mono hB3.size)
  go_wp2_with fail
  refine (HZ.out _).mono ?_
  rintro e w' ⟨rfl, rfl⟩
  go_wp2_with fail
  refine (HP.out _).mono ?_
  rintro e w5 ⟨A5, c5, rfl, hs5, hb5⟩
  go_wp2_with fail
  go_ret2
  exact ⟨A5, c5, rfl, hs5.bs, hB4.trans (hb5.mono hB4.size)⟩

theorem sread_turn (k : Int) (hk : k = 6) (A : Option Addr) (n c : Nat) (s' : List UInt8) (w : World) (hs : Bs w A n c s') : Calls Try.prog 10 #[.int .i64 k, .slice A n c] w (Says w (.tuple #[sgV (readSg k s'), .int .i64 (signE k s')])) := by
  have hsz : sizeF k = 1 := by unfold sizeF; rw [hk]; rfl
  have hkk : k = 3 ∨ k = 4 ∨ k = 5 ∨ k = 6 := (by omega)
  have hl := hs.len
  have HF : Hid (∀ W : World, Calls Try.prog 16 #[.int .i64 k] W fun e w' => e = .returned (.tuple #[turnF, .bool true]) ∧ w' = W) := Lib.hid (fun W => by rw [hk]; exact formOf_turn W)
  have HTk : Hid (∀ W : World, Calls Try.prog 45 #[.int .i64 (1 : Nat), .int .i64 (n : Int)] W fun e w' => e = .returned (.bool ((n : Int) == ((1 : Nat) : Int))) ∧ w' = W) := Lib.hid (fun W => width_takes _ _ W)
  have ma := @assert_num_turn
  have m1 := @met_turn_takes
  have m2 := @met_turn_size
  have m3 := @met_turn_sign
  by_cases hn : n = 1
  · obtain ⟨e1, e2⟩ := read_form hkk (s := s') (by rw [hl, hsz]; exact hn)
    rw [e1, e2]
    have hnb : Hid (((n : Int) == ((1 : Nat) : Int)) = true) := Lib.hid (by rw [beq_iff_eq]; omega)
    rw [hnb.out] at HTk
    have HZ : Hid (∀ W : World, Calls Try.prog 44 #[.int .i64 (1 : Nat)] W fun e w' => e = .returned (.int .i64 (1 : Nat)) ∧ w' = W) := Lib.hid (fun W => width_size _ W)
    have hv : num s' < 18446744073709551616 := by
      have h1 := num_lt s'
      have h2 := pow256_le (n := s'.length) (by rw [hl, hn]; omega)
      omega
    have HG : Hid (∀ W A c, Bs W A n c s' → Calls Try.prog 19 #[.slice A n c, .int .i64 0, .int .i64 (1 : Nat)] W fun e w' => e = .returned (.tuple #[.int .u64 (num s' : Int), .int .i64 0]) ∧ W = w') := Lib.hid (fun W A c h => by
      have h1 := get_yes A n c s' 0 1 W h (by omega) (by omega) (by omega)
      rw [List.drop_zero, List.take_of_length_le (by omega)] at h1
      exact h1)
    have HS := Lib.hid (fun W => sgn_turn k hk (num s') hv W)
    clear hkk e1 e2 hl hv hsz hn hk
    generalize num s' = v at *
    generalize signF k v = q at *
    obtain ⟨k', t, m, a, b, u⟩ := q
    dsimp only [sgV] at HS ⊢
    have hz := fun W => Box.new W [.int .i64 0, .string ⟨#[]⟩, .int .u32 0, .bool false, .bool false, .int .i64 0] 24
    have hs1 := hs.alloc (.cells #[.int .i64 0, .string ⟨#[]⟩, .int .u32 0, .bool false, .bool false, .int .i64 0] 24)
    have hB1 := below1 w (.cells #[.int .i64 0, .string ⟨#[]⟩, .int .u32 0, .bool false, .bool false, .int .i64 0] 24)
    have k1 := Box.new w [.int .i64 0, .string ⟨#[]⟩, .int .u32 0, .bool false, .bool false, .int .i64 0] 24
    clear hz
    have HG1 := Lib.hid (HG.out _ _ _ hs1)
    go_enter Try.func10, Try.ntmps10
    go_wp2_with fail
    refine (HF.out _).mono ?_
    rintro e w' ⟨rfl, rfl⟩
    go_wp2_with fail
    refine (HTk.out _).mono ?_
    rintro e w' ⟨rfl, rfl⟩
    go_wp2_with fail
    refine (HZ.out _).mono ?_
    rintro e w' ⟨rfl, rfl⟩
    go_wp2_with fail
    refine (HG1.out).mono ?_
    rintro e w' ⟨rfl, rfl⟩
    go_wp2_with fail
    refine (HS.out _).mono ?_
    rintro e w3 ⟨rfl, hb3⟩
    have hB3 := hB1.trans (hb3.mono hB1.size)
    have k3 := k1.call hb3
    have f3 := k3.all6.1
    have g3 := k3.free6
    go_wp2_with fail
    have k4 := k3.put6 (.int .i64 k') (.string t) (.int .u32 (m : Int)) (.bool a) (.bool b) (.int .i64 u)
    have f4 := k4.all6.1
    have hB4 := below_put6 hB3 (Nat.le_refl _) (.int .i64 k') (.string t) (.int .u32 (m : Int)) (.bool a) (.bool b) (.int .i64 u)
    clear f3 g3 k3 k4
    dsimp only [put6] at f4 hB4
    exact bodyPost_ret (v := .tuple #[.agg #[.int .i64 k', .string t, .int .u32 (m : Int), .bool a, .bool b, .int .i64 u], .int .i64 0]) (by simp [results, Try.results10, go_sem, f4]) rfl ⟨rfl, hB4⟩
  · obtain ⟨e1, e2⟩ := read_size hkk (s := s') (by rw [hl, hsz]; exact hn)
    rw [e1, e2]
    have hnb : Hid (((n : Int) == ((1 : Nat) : Int)) = false) := Lib.hid (by rw [beq_eq_false_iff_ne]; omega)
    rw [hnb.out] at HTk
    clear hkk e1 e2 hl hsz hn hk
    go_enter Try.func10, Try.ntmps10
    go_wp2_with fail
    refine (HF.out _).mono ?_
    rintro e w' ⟨rfl, rfl⟩
    go_wp2_with fail
    refine (HTk.out _).mono ?_
    rintro e w' ⟨rfl, rfl⟩
    go_wp2_with fail
    exact bodyPost_ret (v := .tuple #[sgV zeroSg, .int .i64 4]) (by simp [results, Try.results10, go_sem, zeroSg, *]) rfl ⟨rfl, (by first | exact below1 _ _ | exact below2 _ _ _ | exact below3 _ _ _ _)⟩
end Go.Proofs.Ytnmnbiphonjlaaa

/-
  The walk of the statement BitsParts.
-/
import Derived.Test.YtpalhllphnfpmaaBitW
import Derived.Test.YtpalhllphnfpmaaBitN
namespace Go.Proofs.Ytpalhllphnfpmaa
open Go.RowKit

set_option maxRecDepth 100000 in
set_option maxHeartbeats 400000 in
theorem bitsParts_big (A B : Option Addr) (l c l2 d : Nat) (a err m mm nn : Int) (v : Nat) (w : World) (hl : l ≤ maxLen) (hl2 : l2 ≤ maxLen) (hbig : 3000 < l ∨ 3000 < l2) :
    Calls Try.prog 5 #[.agg #[.slice A l c, .int .i64 a, .int .i64 err], .agg #[.slice B l2 d, .int .i64 m], .int .u8 mm, .int .u8 nn, .int .u64 v] w fun e w' => e = .returned (.bool true) ∧ Below w.heap.size w w' := by
  unfold maxLen at hl hl2
  rcases (show 3000 < (l : Int) ∨ ((l : Int) ≤ 3000 ∧ 3000 < (l2 : Int)) by omega) with h | ⟨h0, h⟩
  all_goals
    clear hbig
    go_enter Try.func5, Try.ntmps5
    go_wp2_with fail
    refine (awake_any _).mono ?_
    rintro e w1 ⟨rfl, hb⟩
    have k1 := ((Box.new w _ _).alloc _).call hb
    have k2 := (Box.new (w.alloc _) _ _).call hb
    rw [World.size_alloc] at k2
    have hB := (below2 w _ _).trans (hb.mono (by simp; omega))
    clear hb
    obtain ⟨ck10, ck11, ck12, fk10, fk11, fk12, lk1⟩ := k1.three
    obtain ⟨ck20, ck21, fk20, fk21, lk2⟩ := k2.two
    go_wp2
    go_ret
    exact ⟨rfl, hB⟩

/-- What a call hands back: an ink of so many bytes, and the number of an error. -/
def GivesK (w : World) (q : Nat) (r : List UInt8) (k er : Int) (e : Ending) (w' : World) : Prop :=
  ∃ A' c', e = .returned (.tuple #[.agg #[.slice A' q c', .int .i64 k], .int .i64 er]) ∧ Bs w' A' q c' r ∧ Below w.heap.size w w'
theorem gives_k {w w' : World} {q : Nat} {r : List UInt8} {k er : Int} {e : Ending} (h : GivesI w r k er e w') (hq : r.length = q) : GivesK w q r k er e w' := by
  subst hq
  exact h
/-- An ink's variable that was just made, and the number of an error. -/
def PRel (wX : World) (q : Nat) (r : List UInt8) (k er : Int) (p e : Value) (W : World) : Prop :=
  ∃ b A' c', p = .pointer (some ⟨b, 0, none⟩) ∧ e = .int .i64 er ∧ wX.heap.size ≤ b ∧ Box W b [.slice A' q c', .int .i64 k] ∧ Bs W A' q c' r ∧ Below wX.heap.size wX W
theorem prel_new {wX wP : World} {q : Nat} {r : List UInt8} {k er : Int} {A' : Option Addr} {c' : Nat} (h : Bs wP A' q c' r) (hb : Below wX.heap.size wX wP) :
    PRel wX q r k er (.pointer (some ⟨wP.heap.size, 0, none⟩)) (.int .i64 er) (wP.alloc (.cells #[.slice A' q c', .int .i64 k] 27)) :=
  ⟨wP.heap.size, A', c', rfl, rfl, hb.size, Box.new wP [.slice A' q c', .int .i64 k] 27, h.alloc _, hb.alloc hb.size _⟩
theorem prel_old {wX wP : World} {q b a2 a3 : Nat} {a1 : Option Addr} {m1 : Int} {r : List UInt8} {k er : Int} {A' : Option Addr} {c' : Nat} (hk : Box wP b [.slice a1 a2 a3, .int .i64 m1]) (h : Bs wP A' q c' r) (hb : Below wX.heap.size wX wP) (hle : wX.heap.size ≤ b) :
    PRel wX q r k er (.pointer (some ⟨b, 0, none⟩)) (.int .i64 er) ((wP.setCell ⟨b, 0, none⟩ (.slice A' q c')).setCell ⟨b, 1, none⟩ (.int .i64 k)) :=
  ⟨b, A', c', rfl, rfl, hle, hk.put2 _ _, h.box2 hk _ _, below_put2 hb hle _ _⟩
/-- An ink's variable that was written anew, and the number of an error. -/
def QRel (wX : World) (b q : Nat) (r : List UInt8) (k er : Int) (e : Value) (W : World) : Prop :=
  ∃ A' c', e = .int .i64 er ∧ Box W b [.slice A' q c', .int .i64 k] ∧ Bs W A' q c' r ∧ Below wX.heap.size wX W

theorem bound_u8i {n : Int} (h : (Lit.int .u8 n).wf = true) : 0 ≤ n ∧ n ≤ 255 := by
  have h1 : IntKind.u8.min = 0 := rfl
  have h2 : IntKind.u8.max = 255 := rfl
  simp only [Lit.wf, Bool.and_eq_true, decide_eq_true_eq] at h
  omega
theorem mask_eq (v k : Nat) (hv : v < 18446744073709551616) (hk : k ≤ 63) : bits .and .u64 (v : Int) (IntKind.u64.wrap (IntKind.u64.wrap (2 ^ k) - 1)) = ((v % 2 ^ k : Nat) : Int) := by
  have hp : (2 : Nat) ^ k ≤ 9223372036854775808 := Nat.pow_le_pow_right (n := 2) (j := 63) (by omega) hk
  have hp0 : 0 < (2 : Nat) ^ k := Nat.pow_pos (by omega)
  have e1 : ((2 : Int) ^ k) = ((2 ^ k : Nat) : Int) := by simp
  have e2 : IntKind.u64.wrap (IntKind.u64.wrap ((2 ^ k : Nat) : Int) - 1) = ((2 ^ k - 1 : Nat) : Int) := by
    rw [IntKind.wrap_u64, IntKind.wrap_u64]; omega
  rw [e1, e2, u64_and_nat _ _ hv (by omega), Nat.and_two_pow_sub_one_eq_mod]

theorem bgetV_lt (s : List UInt8) (a err : Int) (n : Nat) : bgetV s a err n < 2 ^ n := by
  unfold bgetV
  split
  · rw [Int.toNat_natCast]; exact numAt_lt _ _ _
  · exact Nat.pow_pos (by omega)
/-- The three calls that write a number at once, and in two parts. -/
theorem add_contracts (B : Option Addr) (l2 d : Nat) (t : List UInt8) (m : Int) (x y u : Nat) (hl2 : l2 ≤ 3000) (hlen : t.length = l2) (m2 : m ≤ 9223372036854775807) (hx : x ≤ 32) (hy : y ≤ 31) (hu : u < 2 ^ (x + y)) :
    ∃ (q1 : Nat) (r1 : List UInt8) (i1 : Int) (q2 : Nat) (r2 : List UInt8) (i2 er : Int),
      (∀ w, Bs w B l2 d t → Calls Try.prog 15 #[.agg #[.slice B l2 d, .int .i64 m], .int .u64 ((u : Int) / 2 ^ y), .int .i64 x] w (GivesK w q1 r1 i1 er)) ∧
      (∀ w A' c', Bs w A' q1 c' r1 → Calls Try.prog 15 #[.agg #[.slice A' q1 c', .int .i64 i1], .int .u64 ((u % 2 ^ y : Nat) : Int), .int .i64 y] w (GivesK w q2 r2 i2 er)) ∧
      (∀ w, Bs w B l2 d t → Calls Try.prog 15 #[.agg #[.slice B l2 d, .int .i64 m], .int .u64 u, .int .i64 ((x : Int) + y)] w (GivesK w q2 r2 i2 er)) := by
  have hp : (2 : Nat) ^ (x + y) ≤ 9223372036854775808 := Nat.pow_le_pow_right (n := 2) (j := 63) (by omega) (by omega)
  have hd : u / 2 ^ y < 2 ^ x := by
    rw [Nat.div_lt_iff_lt_mul (Nat.pow_pos (by omega)), ← Nat.pow_add]; exact hu
  have hm : u % 2 ^ y < 2 ^ y := Nat.mod_lt _ (Nat.pow_pos (by omega))
  have hdu : u / 2 ^ y ≤ u := Nat.div_le_self _ _
  have hmu : u % 2 ^ y ≤ u := Nat.mod_le _ _
  by_cases hr : inkB t m = true
  · obtain ⟨m, rfl⟩ := Int.eq_ofNat_of_zero_le (inkB_iff.1 hr).1
    have hml := (inkB_iff.1 hr).2.1
    rw [Int.toNat_natCast] at hml
    refine ⟨(m + x + 7) / 8, addS t m (u / 2 ^ y) x, (m : Int) + x, (m + (x + y) + 7) / 8, addS t m u (x + y), (m : Int) + ((x + y : Nat) : Int), 0, ?_, ?_, ?_⟩
    · intro w ht
      have := badd_main B l2 d t m x (u / 2 ^ y) w ht (by omega) hr (by omega) hd (by omega)
      rw [show ((u / 2 ^ y : Nat) : Int) = (u : Int) / 2 ^ y by simp] at this
      exact this.mono fun _ _ k => gives_k k (addS_length _ _ _ _)
    · intro w A' c' ht
      have := badd_main A' ((m + x + 7) / 8) c' (addS t m (u / 2 ^ y) x) (m + x) y (u % 2 ^ y) w ht (by omega) (addS_right _ _ _ _) (by omega) hm (by omega)
      rw [addS_parts, Int.natCast_add, show (m : Int) + x + y = (m : Int) + ((x + y : Nat) : Int) by omega] at this
      exact this.mono fun _ _ k => gives_k k (addS_length _ _ _ _)
    · intro w ht
      have := badd_main B l2 d t m (x + y) u w ht (by omega) hr (by omega) hu (by omega)
      refine Calls.mono ?_ fun _ _ k => gives_k k (addS_length _ _ _ _)
      have e : (((x + y : Nat) : Int)) = (x : Int) + y := by omega
      rw [e] at this ⊢
      exact this
  · have key : ∀ (w : World) (A' : Option Addr) (c' : Nat) (v : Nat) (n : Int), Bs w A' l2 c' t → Calls Try.prog 15 #[.agg #[.slice A' l2 c', .int .i64 m], .int .u64 v, .int .i64 n] w (GivesK w l2 t m 1) := fun w A' c' v n ht =>
      (badd_arg A' l2 c' t m n v w ht (by omega) m2 (fun h => hr h.1)).mono fun _ _ k => gives_k (gives_says ht k) hlen
    refine ⟨l2, t, m, l2, t, m, 1, fun w ht => ?_, fun w A' c' ht => key w A' c' _ _ ht, fun w ht => key w B d _ _ ht⟩
    have := key w B d (u / 2 ^ y) x ht
    rwa [show ((u / 2 ^ y : Nat) : Int) = (u : Int) / 2 ^ y by simp] at this

set_option maxRecDepth 100000 in
set_option maxHeartbeats 4000000 in
theorem bitsParts_main (A B : Option Addr) (l c l2 d : Nat) (s t : List UInt8) (a err m : Int) (mm nn v : Nat) (w : World) (hs : Bs w A l c s) (ht : Bs w B l2 d t) (hl : l ≤ 3000) (hl2 : l2 ≤ 3000) (hm : (Lit.int .i64 m).wf = true) (hmm : mm ≤ 255) (hnn : nn ≤ 255) (hv : v < 18446744073709551616) :
    Calls Try.prog 5 #[.agg #[.slice A l c, .int .i64 a, .int .i64 err], .agg #[.slice B l2 d, .int .i64 m], .int .u8 mm, .int .u8 nn, .int .u64 v] w fun e w' => e = .returned (.bool true) ∧ Below w.heap.size w w' := by
  obtain ⟨m1, m2⟩ := bound_i64 hm
  obtain ⟨x, hx⟩ : ∃ x : Nat, x = mm % 33 := ⟨_, rfl⟩
  obtain ⟨y, hy⟩ : ∃ y : Nat, y = nn % 32 := ⟨_, rfl⟩
  have hx2 : (mm : Int) % 33 = (x : Int) := by omega
  have hy2 : (nn : Int) % 32 = (y : Int) := by omega
  have hx3 : x ≤ 32 := by omega
  have hy3 : y ≤ 31 := by omega
  clear hx hy
  have hlen := hs.len
  have hlent := ht.len
  have hv3b := bgetV_lt s a err (x + y)
  have hp63 : (2 : Nat) ^ (x + y) ≤ 9223372036854775808 := Nat.pow_le_pow_right (n := 2) (j := 63) (by omega) (by omega)
  have hp0 : 0 < (2 : Nat) ^ (x + y) := Nat.pow_pos (by omega)
  have hmask := mask_eq v (x + y) hv (by omega)
  have hu : v % 2 ^ (x + y) < 2 ^ (x + y) := Nat.mod_lt _ hp0
  have hmask2 := mask_eq (v % 2 ^ (x + y)) y (by omega) (by omega)
  obtain ⟨q1, r1, i1, q2, r2, i2, er, c7, c8, c9⟩ := add_contracts B l2 d t m x y (v % 2 ^ (x + y)) hl2 hlent m2 hx3 hy3 hu
  generalize v % 2 ^ (x + y) = u at *
  generalize u % 2 ^ y = lo at *
  have HM := Lib.hid hmask
  have HM2 := Lib.hid hmask2
  have D7 := Lib.hid c7
  have D8 := Lib.hid c8
  have D9 := Lib.hid c9
  clear c7 c8 c9 hmask hmask2 hlent hp0 hu
  have hparts := bget_parts s a err x y hx3 hy3
  rw [hlen] at hparts
  have d1 := fun w hs => bget_any A l c s a err x w hs (by omega)
  have d2 := fun w hs => bget_any A l c s (bgetA s.length a err x) (bgetE s.length a err x) y w hs (by omega)
  have d3 := fun w hs => bget_any A l c s a err ((x + y : Nat) : Int) w hs (by omega)
  rw [hlen] at d1 d2 d3
  rw [Int.natCast_add] at d3 hparts hv3b
  generalize bgetV s (bgetA l a err x) (bgetE l a err x) y = v2 at *
  generalize bgetE l (bgetA l a err x) (bgetE l a err x) y = E2 at *
  generalize bgetA l (bgetA l a err x) (bgetE l a err x) y = A2 at *
  generalize bgetV s a err x = v1 at *
  generalize bgetE l a err x = E1 at *
  generalize bgetA l a err x = A1 at *
  generalize bgetV s a err ((x : Int) + y) = v3 at *
  generalize bgetE l a err ((x : Int) + y) = E3 at *
  generalize bgetA l a err ((x : Int) + y) = A3 at *
  have D1 := Lib.hid d1
  have D2 := Lib.hid d2
  have D3 := Lib.hid d3
  clear d1 d2 d3 hlen
  by_cases hE : E2 = 0
  · subst hE
    obtain ⟨rfl, rfl, hv3⟩ := hparts.1 rfl
    clear hparts
    have hne : ((v1 : Int) * 2 ^ y + v2 != IntKind.u64.wrap (IntKind.u64.wrap ((v1 : Int) * 2 ^ y) + v2)) = false := by
      have e1 : (v1 : Int) * 2 ^ y = ((v1 * 2 ^ y : Nat) : Int) := by simp
      rw [e1]
      generalize v1 * 2 ^ y = q at *
      have e2 : IntKind.u64.wrap (IntKind.u64.wrap (q : Int) + v2) = (q : Int) + v2 := by rw [IntKind.wrap_u64, IntKind.wrap_u64]; omega
      rw [e2]; simp
    clear hv3b hp63
    go_enter Try.func5, Try.ntmps5
    go_wp2_with fail
    refine (awake_any _).mono ?_
    rintro e w1 ⟨rfl, hb⟩
    have k1 := ((Box.new w _ _).alloc _).call hb
    have k2 := (Box.new (w.alloc _) _ _).call hb
    rw [World.size_alloc] at k2
    replace hs := ((hs.alloc _).alloc _).below hb
    replace ht := ((ht.alloc _).alloc _).below hb
    have hB := (below2 w _ _).trans (hb.mono (by simp; omega))
    clear hb
    obtain ⟨ck10, ck11, ck12, fk10, fk11, fk12, lk1⟩ := k1.three
    obtain ⟨ck20, ck21, fk20, fk21, lk2⟩ := k2.two
    go_wp2_with fail
    rw [hx2, hy2]
    clear hx2 hy2
    refine (D1.out _ hs).mono ?_
    rintro e w2 ⟨rfl, hb⟩
    clear ck10 ck11 ck12 fk10 fk11 fk12 lk1 ck20 ck21 fk20 fk21 lk2
    replace hs := hs.below hb
    replace ht := ht.below hb
    replace k1 := k1.call hb
    replace k2 := k2.call hb
    replace hB := hB.trans (hb.mono hB.size)
    clear hb
    obtain ⟨ck10, ck11, ck12, fk10, fk11, fk12, lk1⟩ := k1.three
    obtain ⟨ck20, ck21, fk20, fk21, lk2⟩ := k2.two
    go_wp2_with fail
    clear ck10 ck11 ck12 fk10 fk11 fk12 lk1 ck20 ck21 fk20 fk21 lk2
    have qk1ka : w.heap.size ≠ w2.heap.size := Nat.ne_of_lt k1.2.2
    have qkak1 : w2.heap.size ≠ w.heap.size := qk1ka.symm
    have qk2ka : (w.heap.size + 1) ≠ w2.heap.size := Nat.ne_of_lt k2.2.2
    have qkak2 : w2.heap.size ≠ (w.heap.size + 1) := qk2ka.symm
    have hbka := hB.size
    have ka := Box.new w2 [.slice A l c, .int .i64 A1, .int .i64 E1] 25
    replace hs := hs.alloc (.cells #[.slice A l c, .int .i64 A1, .int .i64 E1] 25)
    replace ht := ht.alloc (.cells #[.slice A l c, .int .i64 A1, .int .i64 E1] 25)
    replace k1 := k1.alloc (.cells #[.slice A l c, .int .i64 A1, .int .i64 E1] 25)
    replace k2 := k2.alloc (.cells #[.slice A l c, .int .i64 A1, .int .i64 E1] 25)
    replace hB := hB.alloc hB.size (.cells #[.slice A l c, .int .i64 A1, .int .i64 E1] 25)
    refine (D2.out _ hs).mono ?_
    rintro e w3 ⟨rfl, hb⟩
    replace hs := hs.below hb
    replace ht := ht.below hb
    replace k1 := k1.call hb
    replace k2 := k2.call hb
    replace ka := ka.call hb
    replace hB := hB.trans (hb.mono hB.size)
    clear hb
    obtain ⟨ck10, ck11, ck12, fk10, fk11, fk12, lk1⟩ := k1.three
    obtain ⟨ck20, ck21, fk20, fk21, lk2⟩ := k2.two
    obtain ⟨cka0, cka1, cka2, fka0, fka1, fka2, lka⟩ := ka.three
    go_wp2_with fail
    clear ck10 ck11 ck12 fk10 fk11 fk12 lk1 ck20 ck21 fk20 fk21 lk2 cka0 cka1 cka2 fka0 fka1 fka2 lka
    have qk1kb : w.heap.size ≠ w3.heap.size := Nat.ne_of_lt k1.2.2
    have qkbk1 : w3.heap.size ≠ w.heap.size := qk1kb.symm
    have qk2kb : (w.heap.size + 1) ≠ w3.heap.size := Nat.ne_of_lt k2.2.2
    have qkbk2 : w3.heap.size ≠ (w.heap.size + 1) := qk2kb.symm
    have qkakb : w2.heap.size ≠ w3.heap.size := Nat.ne_of_lt ka.2.2
    have qkbka : w3.heap.size ≠ w2.heap.size := qkakb.symm
    have hbkb := hB.size
    have kb := Box.new w3 [.slice A l c, .int .i64 A3, .int .i64 0] 25
    replace hs := hs.alloc (.cells #[.slice A l c, .int .i64 A3, .int .i64 0] 25)
    replace ht := ht.alloc (.cells #[.slice A l c, .int .i64 A3, .int .i64 0] 25)
    replace k1 := k1.alloc (.cells #[.slice A l c, .int .i64 A3, .int .i64 0] 25)
    replace k2 := k2.alloc (.cells #[.slice A l c, .int .i64 A3, .int .i64 0] 25)
    replace ka := ka.alloc (.cells #[.slice A l c, .int .i64 A3, .int .i64 0] 25)
    replace hB := hB.alloc hB.size (.cells #[.slice A l c, .int .i64 A3, .int .i64 0] 25)
    refine (D3.out _ hs).mono ?_
    rintro e w4 ⟨rfl, hb⟩
    replace hs := hs.below hb
    replace ht := ht.below hb
    replace k1 := k1.call hb
    replace k2 := k2.call hb
    replace ka := ka.call hb
    replace kb := kb.call hb
    replace hB := hB.trans (hb.mono hB.size)
    clear hb
    obtain ⟨ck10, ck11, ck12, fk10, fk11, fk12, lk1⟩ := k1.three
    obtain ⟨ck20, ck21, fk20, fk21, lk2⟩ := k2.two
    obtain ⟨cka0, cka1, cka2, fka0, fka1, fka2, lka⟩ := ka.three
    obtain ⟨ckb0, ckb1, ckb2, fkb0, fkb1, fkb2, lkb⟩ := kb.three
    go_upto_region 15 with fail
    clear hne
    clear ck10 ck11 ck12 fk10 fk11 fk12 lk1 ck20 ck21 fk20 fk21 lk2 cka0 cka1 cka2 fka0 fka1 fka2 lka ckb0 ckb1 ckb2 fkb0 fkb1 fkb2 lkb
    have qk1kc : w.heap.size ≠ w4.heap.size := Nat.ne_of_lt k1.2.2
    have qkck1 : w4.heap.size ≠ w.heap.size := qk1kc.symm
    have qk2kc : (w.heap.size + 1) ≠ w4.heap.size := Nat.ne_of_lt k2.2.2
    have qkck2 : w4.heap.size ≠ (w.heap.size + 1) := qk2kc.symm
    have qkakc : w2.heap.size ≠ w4.heap.size := Nat.ne_of_lt ka.2.2
    have qkcka : w4.heap.size ≠ w2.heap.size := qkakc.symm
    have qkbkc : w3.heap.size ≠ w4.heap.size := Nat.ne_of_lt kb.2.2
    have qkckb : w4.heap.size ≠ w3.heap.size := qkbkc.symm
    have hbkc := hB.size
    have kc := Box.new w4 [.slice A l c, .int .i64 A3, .int .i64 0] 25
    replace hs := hs.alloc (.cells #[.slice A l c, .int .i64 A3, .int .i64 0] 25)
    replace ht := ht.alloc (.cells #[.slice A l c, .int .i64 A3, .int .i64 0] 25)
    replace k1 := k1.alloc (.cells #[.slice A l c, .int .i64 A3, .int .i64 0] 25)
    replace k2 := k2.alloc (.cells #[.slice A l c, .int .i64 A3, .int .i64 0] 25)
    replace ka := ka.alloc (.cells #[.slice A l c, .int .i64 A3, .int .i64 0] 25)
    replace kb := kb.alloc (.cells #[.slice A l c, .int .i64 A3, .int .i64 0] 25)
    replace hB := hB.alloc hB.size (.cells #[.slice A l c, .int .i64 A3, .int .i64 0] 25)
    generalize w4.alloc (.cells #[.slice A l c, .int .i64 A3, .int .i64 0] 25) = w5 at *
    rw [HM.out]
    obtain ⟨ck20, ck21, fk20, fk21, lk2⟩ := k2.two
    go_cut [19, 20] (fun p e W => PRel w5 q1 r1 i1 er p e W)
    case first =>
      have n1 : w5.heap.size ≠ w.heap.size + 1 := by omega
      go_region_held3 (fun W => W.cell? ⟨w.heap.size + 1, 0, none⟩ = some (.slice B l2 d) ∧ W.cell? ⟨w.heap.size + 1, 1, none⟩ = some (.int .i64 m))
        (go_keep)
        (first | (go_at_call 15; refine (D7.out _ (by first | exact ht | exact Bs.alloc (w := w5.drew) ht _)).mono ?_; rintro e wP ⟨Ap, cp, rfl, hp, hb⟩; have z1 : Box wP (w.heap.size + 1) [.slice B l2 d, .int .i64 m] := (by first | exact Box.call (w := w5.drew) k2 hb | exact (Box.alloc (w := w5.drew) k2 _).call hb); obtain ⟨y0, y1, _, _, _⟩ := z1.two; obtain ⟨r1', r2'⟩ := bcell hb))
      · go_wp2_with fail
        go_meet
        exact prel_new hp ((Below.refl _ w5).drew.trans hb)
      · go_wp2_with fail
        go_meet
        exact prel_old (Box.call (w := (w5.alloc (.cells #[.slice none 0 0, .int .i64 0] 27)).drew) (Box.new w5 [.slice none 0 0, .int .i64 0] 27) hb) hp ((below1 w5 _).drew.trans (hb.mono (by simp))) (Nat.le_refl _)
    case rest =>
      obtain ⟨b, Ap, cp, rfl, rfl, hbX, kp, hp, hbP⟩ := hcut
      clear ck20 ck21 fk20 fk21 lk2
      obtain ⟨ckp0, ckp1, fkp0, fkp1, lkp⟩ := kp.two
      go_upto_region 16 with fail
      have hm2 := HM2.out
      go_cut [21] (fun e W => QRel w5 b q2 r2 i2 er e W)
      case first =>
        go_region_with (go_at_call 15; refine (D8.out wc.drew Ap cp hp).mono ?_; rintro e wQ ⟨Aq, cq, rfl, hq, hb⟩; have z1 : Box wQ b [.slice Ap q1 cp, .int .i64 i1] := Box.call (w := wc.drew) kp hb; obtain ⟨y0, y1, y2, y3, _⟩ := z1.two)
        all_goals
          go_wp2_with fail
          go_meet
          exact ⟨Aq, cq, rfl, z1.put2 _ _, hq.box2 z1 _ _, below_put2 (hbP.drew.trans (hb.mono hbP.size)) hbX _ _⟩
      case rest =>
        obtain ⟨Aq, cq, rfl, kq, hq, hb⟩ := hcut
        clear hm2 ckp0 ckp1 fkp0 fkp1 lkp kp hp hbP
        replace hs := hs.below hb
        replace ht := ht.below hb
        replace k2 := k2.call hb
        replace hB := hB.trans (hb.mono hB.size)
        clear hb
        obtain ⟨ck20, ck21, fk20, fk21, lk2⟩ := k2.two
        obtain ⟨ckq0, ckq1, fkq0, fkq1, lkq⟩ := kq.two
        go_wp2_with fail
        refine (D9.out _ ht).mono ?_
        rintro e w8 ⟨At, ct, rfl, hr, hb⟩
        replace hq := hq.below hb
        replace kq := kq.call hb
        replace hB := hB.trans (hb.mono hB.size)
        clear hb ck20 ck21 fk20 fk21 lk2 ckq0 ckq1 fkq0 fkq1 lkq
        obtain ⟨ckq0, ckq1, fkq0, fkq1, lkq⟩ := kq.two
        have n8 : b ≠ w8.heap.size := Nat.ne_of_lt lkq
        have n9 : w8.heap.size ≠ b := n8.symm
        go_wp2_with fail
        refine (rsameInk_yes Aq At q2 cq ct r2 i2 _ (hq.alloc _) (hr.alloc _)).mono ?_
        rintro e w9 ⟨rfl, hb⟩
        go_wp2
        go_ret
        exact ⟨rfl, (hB.alloc hB.size _).trans (hb.mono (by have := hB.size; simp; omega))⟩
  · have hE3 := hparts.2 hE
    have hz3 : (E3 == 0) = false := by simpa using hE3
    have hz3' : (E3 != 0) = true := by simpa using hE3
    have hz2 : (E2 == 0) = false := by simpa using hE
    have hz2' : (E2 != 0) = true := by simpa using hE
    clear hparts hE hE3 hv3b hp63
    go_enter Try.func5, Try.ntmps5
    go_wp2_with fail
    refine (awake_any _).mono ?_
    rintro e w1 ⟨rfl, hb⟩
    have k1 := ((Box.new w _ _).alloc _).call hb
    have k2 := (Box.new (w.alloc _) _ _).call hb
    rw [World.size_alloc] at k2
    replace hs := ((hs.alloc _).alloc _).below hb
    replace ht := ((ht.alloc _).alloc _).below hb
    have hB := (below2 w _ _).trans (hb.mono (by simp; omega))
    clear hb
    obtain ⟨ck10, ck11, ck12, fk10, fk11, fk12, lk1⟩ := k1.three
    obtain ⟨ck20, ck21, fk20, fk21, lk2⟩ := k2.two
    go_wp2_with fail
    rw [hx2, hy2]
    clear hx2 hy2
    refine (D1.out _ hs).mono ?_
    rintro e w2 ⟨rfl, hb⟩
    clear ck10 ck11 ck12 fk10 fk11 fk12 lk1 ck20 ck21 fk20 fk21 lk2
    replace hs := hs.below hb
    replace ht := ht.below hb
    replace k1 := k1.call hb
    replace k2 := k2.call hb
    replace hB := hB.trans (hb.mono hB.size)
    clear hb
    obtain ⟨ck10, ck11, ck12, fk10, fk11, fk12, lk1⟩ := k1.three
    obtain ⟨ck20, ck21, fk20, fk21, lk2⟩ := k2.two
    go_wp2_with fail
    clear ck10 ck11 ck12 fk10 fk11 fk12 lk1 ck20 ck21 fk20 fk21 lk2
    have qk1ka : w.heap.size ≠ w2.heap.size := Nat.ne_of_lt k1.2.2
    have qkak1 : w2.heap.size ≠ w.heap.size := qk1ka.symm
    have qk2ka : (w.heap.size + 1) ≠ w2.heap.size := Nat.ne_of_lt k2.2.2
    have qkak2 : w2.heap.size ≠ (w.heap.size + 1) := qk2ka.symm
    have hbka := hB.size
    have ka := Box.new w2 [.slice A l c, .int .i64 A1, .int .i64 E1] 25
    replace hs := hs.alloc (.cells #[.slice A l c, .int .i64 A1, .int .i64 E1] 25)
    replace ht := ht.alloc (.cells #[.slice A l c, .int .i64 A1, .int .i64 E1] 25)
    replace k1 := k1.alloc (.cells #[.slice A l c, .int .i64 A1, .int .i64 E1] 25)
    replace k2 := k2.alloc (.cells #[.slice A l c, .int .i64 A1, .int .i64 E1] 25)
    replace hB := hB.alloc hB.size (.cells #[.slice A l c, .int .i64 A1, .int .i64 E1] 25)
    refine (D2.out _ hs).mono ?_
    rintro e w3 ⟨rfl, hb⟩
    replace hs := hs.below hb
    replace ht := ht.below hb
    replace k1 := k1.call hb
    replace k2 := k2.call hb
    replace ka := ka.call hb
    replace hB := hB.trans (hb.mono hB.size)
    clear hb
    obtain ⟨ck10, ck11, ck12, fk10, fk11, fk12, lk1⟩ := k1.three
    obtain ⟨ck20, ck21, fk20, fk21, lk2⟩ := k2.two
    obtain ⟨cka0, cka1, cka2, fka0, fka1, fka2, lka⟩ := ka.three
    go_wp2_with fail
    clear ck10 ck11 ck12 fk10 fk11 fk12 lk1 ck20 ck21 fk20 fk21 lk2 cka0 cka1 cka2 fka0 fka1 fka2 lka
    have qk1kb : w.heap.size ≠ w3.heap.size := Nat.ne_of_lt k1.2.2
    have qkbk1 : w3.heap.size ≠ w.heap.size := qk1kb.symm
    have qk2kb : (w.heap.size + 1) ≠ w3.heap.size := Nat.ne_of_lt k2.2.2
    have qkbk2 : w3.heap.size ≠ (w.heap.size + 1) := qk2kb.symm
    have qkakb : w2.heap.size ≠ w3.heap.size := Nat.ne_of_lt ka.2.2
    have qkbka : w3.heap.size ≠ w2.heap.size := qkakb.symm
    have hbkb := hB.size
    have kb := Box.new w3 [.slice A l c, .int .i64 A2, .int .i64 E2] 25
    replace hs := hs.alloc (.cells #[.slice A l c, .int .i64 A2, .int .i64 E2] 25)
    replace ht := ht.alloc (.cells #[.slice A l c, .int .i64 A2, .int .i64 E2] 25)
    replace k1 := k1.alloc (.cells #[.slice A l c, .int .i64 A2, .int .i64 E2] 25)
    replace k2 := k2.alloc (.cells #[.slice A l c, .int .i64 A2, .int .i64 E2] 25)
    replace ka := ka.alloc (.cells #[.slice A l c, .int .i64 A2, .int .i64 E2] 25)
    replace hB := hB.alloc hB.size (.cells #[.slice A l c, .int .i64 A2, .int .i64 E2] 25)
    refine (D3.out _ hs).mono ?_
    rintro e w4 ⟨rfl, hb⟩
    replace hs := hs.below hb
    replace ht := ht.below hb
    replace k1 := k1.call hb
    replace k2 := k2.call hb
    replace ka := ka.call hb
    replace kb := kb.call hb
    replace hB := hB.trans (hb.mono hB.size)
    clear hb
    obtain ⟨ck10, ck11, ck12, fk10, fk11, fk12, lk1⟩ := k1.three
    obtain ⟨ck20, ck21, fk20, fk21, lk2⟩ := k2.two
    obtain ⟨cka0, cka1, cka2, fka0, fka1, fka2, lka⟩ := ka.three
    obtain ⟨ckb0, ckb1, ckb2, fkb0, fkb1, fkb2, lkb⟩ := kb.three
    go_upto_region 15 with fail
    clear hz3 hz3' hz2 hz2'
    clear ck10 ck11 ck12 fk10 fk11 fk12 lk1 ck20 ck21 fk20 fk21 lk2 cka0 cka1 cka2 fka0 fka1 fka2 lka ckb0 ckb1 ckb2 fkb0 fkb1 fkb2 lkb
    have qk1kc : w.heap.size ≠ w4.heap.size := Nat.ne_of_lt k1.2.2
    have qkck1 : w4.heap.size ≠ w.heap.size := qk1kc.symm
    have qk2kc : (w.heap.size + 1) ≠ w4.heap.size := Nat.ne_of_lt k2.2.2
    have qkck2 : w4.heap.size ≠ (w.heap.size + 1) := qk2kc.symm
    have qkakc : w2.heap.size ≠ w4.heap.size := Nat.ne_of_lt ka.2.2
    have qkcka : w4.heap.size ≠ w2.heap.size := qkakc.symm
    have qkbkc : w3.heap.size ≠ w4.heap.size := Nat.ne_of_lt kb.2.2
    have qkckb : w4.heap.size ≠ w3.heap.size := qkbkc.symm
    have hbkc := hB.size
    have kc := Box.new w4 [.slice A l c, .int .i64 A3, .int .i64 E3] 25
    replace hs := hs.alloc (.cells #[.slice A l c, .int .i64 A3, .int .i64 E3] 25)
    replace ht := ht.alloc (.cells #[.slice A l c, .int .i64 A3, .int .i64 E3] 25)
    replace k1 := k1.alloc (.cells #[.slice A l c, .int .i64 A3, .int .i64 E3] 25)
    replace k2 := k2.alloc (.cells #[.slice A l c, .int .i64 A3, .int .i64 E3] 25)
    replace ka := ka.alloc (.cells #[.slice A l c, .int .i64 A3, .int .i64 E3] 25)
    replace kb := kb.alloc (.cells #[.slice A l c, .int .i64 A3, .int .i64 E3] 25)
    replace hB := hB.alloc hB.size (.cells #[.slice A l c, .int .i64 A3, .int .i64 E3] 25)
    generalize w4.alloc (.cells #[.slice A l c, .int .i64 A3, .int .i64 E3] 25) = w5 at *
    rw [HM.out]
    obtain ⟨ck20, ck21, fk20, fk21, lk2⟩ := k2.two
    go_cut [19, 20] (fun p e W => PRel w5 q1 r1 i1 er p e W)
    case first =>
      have n1 : w5.heap.size ≠ w.heap.size + 1 := by omega
      go_region_held3 (fun W => W.cell? ⟨w.heap.size + 1, 0, none⟩ = some (.slice B l2 d) ∧ W.cell? ⟨w.heap.size + 1, 1, none⟩ = some (.int .i64 m))
        (go_keep)
        (first | (go_at_call 15; refine (D7.out _ (by first | exact ht | exact Bs.alloc (w := w5.drew) ht _)).mono ?_; rintro e wP ⟨Ap, cp, rfl, hp, hb⟩; have z1 : Box wP (w.heap.size + 1) [.slice B l2 d, .int .i64 m] := (by first | exact Box.call (w := w5.drew) k2 hb | exact (Box.alloc (w := w5.drew) k2 _).call hb); obtain ⟨y0, y1, _, _, _⟩ := z1.two; obtain ⟨r1', r2'⟩ := bcell hb))
      · go_wp2_with fail
        go_meet
        exact prel_new hp ((Below.refl _ w5).drew.trans hb)
      · go_wp2_with fail
        go_meet
        exact prel_old (Box.call (w := (w5.alloc (.cells #[.slice none 0 0, .int .i64 0] 27)).drew) (Box.new w5 [.slice none 0 0, .int .i64 0] 27) hb) hp ((below1 w5 _).drew.trans (hb.mono (by simp))) (Nat.le_refl _)
    case rest =>
      obtain ⟨b, Ap, cp, rfl, rfl, hbX, kp, hp, hbP⟩ := hcut
      clear ck20 ck21 fk20 fk21 lk2
      obtain ⟨ckp0, ckp1, fkp0, fkp1, lkp⟩ := kp.two
      go_upto_region 16 with fail
      have hm2 := HM2.out
      go_cut [21] (fun e W => QRel w5 b q2 r2 i2 er e W)
      case first =>
        go_region_with (go_at_call 15; refine (D8.out wc.drew Ap cp hp).mono ?_; rintro e wQ ⟨Aq, cq, rfl, hq, hb⟩; have z1 : Box wQ b [.slice Ap q1 cp, .int .i64 i1] := Box.call (w := wc.drew) kp hb; obtain ⟨y0, y1, y2, y3, _⟩ := z1.two)
        all_goals
          go_wp2_with fail
          go_meet
          exact ⟨Aq, cq, rfl, z1.put2 _ _, hq.box2 z1 _ _, below_put2 (hbP.drew.trans (hb.mono hbP.size)) hbX _ _⟩
      case rest =>
        obtain ⟨Aq, cq, rfl, kq, hq, hb⟩ := hcut
        clear hm2 ckp0 ckp1 fkp0 fkp1 lkp kp hp hbP
        replace hs := hs.below hb
        replace ht := ht.below hb
        replace k2 := k2.call hb
        replace hB := hB.trans (hb.mono hB.size)
        clear hb
        obtain ⟨ck20, ck21, fk20, fk21, lk2⟩ := k2.two
        obtain ⟨ckq0, ckq1, fkq0, fkq1, lkq⟩ := kq.two
        go_wp2_with fail
        refine (D9.out _ ht).mono ?_
        rintro e w8 ⟨At, ct, rfl, hr, hb⟩
        replace hq := hq.below hb
        replace kq := kq.call hb
        replace hB := hB.trans (hb.mono hB.size)
        clear hb ck20 ck21 fk20 fk21 lk2 ckq0 ckq1 fkq0 fkq1 lkq
        obtain ⟨ckq0, ckq1, fkq0, fkq1, lkq⟩ := kq.two
        have n8 : b ≠ w8.heap.size := Nat.ne_of_lt lkq
        have n9 : w8.heap.size ≠ b := n8.symm
        go_wp2_with fail
        refine (rsameInk_yes Aq At q2 cq ct r2 i2 _ (hq.alloc _) (hr.alloc _)).mono ?_
        rintro e w9 ⟨rfl, hb⟩
        go_wp2
        go_ret
        exact ⟨rfl, (hB.alloc hB.size _).trans (hb.mono (by have := hB.size; simp; omega))⟩

theorem bitsParts_all (A B : Option Addr) (l c l2 d : Nat) (s t : List UInt8) (a err m mm nn v : Int) (w : World) (hs : Bs w A l c s) (ht : Bs w B l2 d t) (hm : (Lit.int .i64 m).wf = true) (hmm : (Lit.int .u8 mm).wf = true) (hnn : (Lit.int .u8 nn).wf = true) (hv : (Lit.int .u64 v).wf = true) :
    Calls Try.prog 5 #[.agg #[.slice A l c, .int .i64 a, .int .i64 err], .agg #[.slice B l2 d, .int .i64 m], .int .u8 mm, .int .u8 nn, .int .u64 v] w fun e w' => e = .returned (.bool true) ∧ Below w.heap.size w w' := by
  obtain ⟨v1, v2⟩ := bound_u64 hv
  obtain ⟨mm1, mm2⟩ := bound_u8i hmm
  obtain ⟨nn1, nn2⟩ := bound_u8i hnn
  obtain ⟨v, rfl⟩ := Int.eq_ofNat_of_zero_le v1
  obtain ⟨mm, rfl⟩ := Int.eq_ofNat_of_zero_le mm1
  obtain ⟨nn, rfl⟩ := Int.eq_ofNat_of_zero_le nn1
  have h1 := hs.le
  have h2 := hs.cap
  have h3 := ht.le
  have h4 := ht.cap
  by_cases hbig : 3000 < l ∨ 3000 < l2
  · exact bitsParts_big A B l c l2 d a err m mm nn v w (by omega) (by omega) hbig
  · exact bitsParts_main A B l c l2 d s t a err m mm nn v w hs ht (by omega) (by omega) hm (by omega) (by omega) (by omega)

end Go.Proofs.Ytpalhllphnfpmaa

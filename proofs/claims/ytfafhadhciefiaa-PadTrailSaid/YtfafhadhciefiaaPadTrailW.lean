/-
  The walk of the statement PadTrail.
-/
import Derived.Test.YtfafhadhciefiaaPadW
import Derived.Deep.QuietTactic
import Derived.Deep.RegionHeld3
import Derived.Deep.DeepCutAuto
namespace Go.Proofs.Ytfafhadhciefiaa
open Go.RowKit

set_option maxRecDepth 100000 in
set_option maxHeartbeats 400000 in
theorem padTrail_big (A : Option Addr) (l c : Nat) (n at_ by_ : Int) (w : World) (hl : 3000 < l) (hm : l ≤ maxLen) :
    Calls Try.prog 4 #[.slice A l c, .int .u8 n, .int .u16 at_, .int .u8 by_] w fun e w' => e = .returned (.bool true) ∧ Below w.heap.size w w' := by
  unfold maxLen at hm
  go_enter Try.func4, Try.ntmps4
  go_wp2_with fail
  refine (awake_any _).mono ?_
  rintro e w1 ⟨rfl, hb1⟩
  go_wp2
  go_ret
  exact ⟨rfl, hb1⟩

set_option maxRecDepth 100000 in
set_option maxHeartbeats 400000 in
theorem padTrail_zero (A : Option Addr) (l c : Nat) (s : List UInt8) (at_ by_ : Int) (w : World) (_hs : Bs w A l c s) (hl : l ≤ 3000) :
    Calls Try.prog 4 #[.slice A l c, .int .u8 0, .int .u16 at_, .int .u8 by_] w fun e w' => e = .returned (.bool true) ∧ Below w.heap.size w w' := by
  have X := Lib.hid (fun w => add_no A l c 0 w (by omega))
  go_enter Try.func4, Try.ntmps4
  go_wp2_with fail
  refine (awake_any _).mono ?_
  rintro e w1 ⟨rfl, hB1⟩
  go_wp2_with fail
  refine (X.out _).mono ?_
  rintro e w' ⟨rfl, rfl⟩
  go_wp2
  go_ret
  exact ⟨rfl, hB1⟩

/-- What holds behind the first tests. -/
def TrailRel (w : World) (base n m : Nat) (A : Option Addr) (c : Nat) (r : List UInt8) (v : Value) (W : World) : Prop :=
  v = .bool false ∧ Below w.heap.size w W ∧ Own W base n A m c r

set_option maxRecDepth 100000 in
set_option maxHeartbeats 2000000 in
theorem padTrail_main (A : Option Addr) (l c : Nat) (s : List UInt8) (n at_ by_ : Nat) (w : World) (hs : Bs w A l c s) (hl : l ≤ 3000) (h1 : 1 ≤ n) (h2 : n ≤ 255) (ha : at_ ≤ 65535) (hb : by_ ≤ 255) :
    Calls Try.prog 4 #[.slice A l c, .int .u8 n, .int .u16 at_, .int .u8 by_] w fun e w' => e = .returned (.bool true) ∧ Below w.heap.size w w' := by
  have hlen := hs.len
  have X := Lib.hid (fun w hs => add_yes A l c s n w hs (by omega) h1 h2)
  have hr : (addB s n).length = l + n := by rw [addB_length s h1, hlen]
  have hrt : (addB s n).take l = s := by rw [← hlen]; exact addB_take s n
  have T : Hid (∀ A c w, Bs w A (l + n) c (addB s n) → Calls Try.prog 15 #[.slice A (l + n) c] w fun e w' => e = .returned (.tuple #[.int .i64 n, .int .i64 0]) ∧ w = w') := Lib.hid (fun A c w hs => by
    have := trail_any A _ c _ w hs
    rwa [trailE_yes (by rw [addB_trail s h1 h2]; omega), addB_trail s h1 h2] at this)
  have C : Hid (∀ A c w, Bs w A (l + n) c (addB s n) → Calls Try.prog 13 #[.slice A (l + n) c] w fun e w' => e = .returned (.bool true) ∧ w' = w) := Lib.hid (fun A c w hs => by
    have := clean_any A _ c _ w hs
    rw [addB_clean s h1 h2] at this
    exact this.mono fun _ _ h => ⟨h.1, h.2.symm⟩)
  have U := fun k (hk : k < n - 1) (hx : (UInt8.ofNat by_).toNat ≠ 0) => addB_turned s h2 hk hx
  rw [hlen] at U
  generalize addB s n = r at *
  have Hr := Lib.hid hr
  have Hrt := Lib.hid hrt
  have HU := Lib.hid U
  clear hr hrt hlen U
  have g1 : (1 : Int) ≤ n := by omega
  have g2 : (n : Int) ≤ 255 := by omega
  go_enter Try.func4, Try.ntmps4
  go_wp2_with fail
  refine (awake_any _).mono ?_
  rintro e w1 ⟨rfl, hB1⟩
  have hs1 := hs.below hB1
  go_wp2_with fail
  refine (X.out _ hs1).mono ?_
  rintro e w2 ⟨A2, c2, rfl, hown2, hb2⟩
  rw [Hr.out] at hown2 ⊢
  have hB2 := hB1.trans (hb2.mono hB1.size)
  have hs2 := hs1.below hb2
  have hx2 := hown2.bs
  clear hs1 hb2
  go_wp2_with fail
  refine (T.out _ _ _ hx2).mono ?_
  rintro e w' ⟨rfl, rfl⟩
  obtain ⟨A3, c3, hsl, hB3⟩ := hx2.slice_r Try.underlying22 byte_size (r := l) (by omega)
  rw [Hrt.out] at hB3
  have e3 : ∀ W, (Instr.slice 22 (.slice A2 (l + n) c2) none (some (.int .i64 l)) none).run Try.prog W = .ok (.slice A3 l c3) W := fun W => hsl W l rfl
  have t1 := fun k => str_of (hs2.drewN k)
  have t2 := fun k => str_of (hB3.drewN k)
  clear hsl
  have hw1 : IntKind.i64.wrap ((l : Int) + n) = (l : Int) + n := IntWalk.i64_in _ (by omega)
  have hw0 : IntKind.i64.wrap (n : Int) = n := IntWalk.i64_in _ (by omega)
  go_upto_region 9 with fail
  go_quiet ((go_at_call 13; exact Calls.quiet_of_same (C.out _ _ _ (hx2.drewN _))))
  have hB4 : Below w.heap.size w (w2.drewN nq) := below_drewN hB2 nq
  replace hown2 : Own (w2.drewN nq) w1.heap.size 5 A2 (l + n) c2 r := hown2
  clear hw0 t1 t2 hB2 hs2 hx2 e3 hB3 hw1
  have hb1 := hB1.size
  generalize w2.drewN nq = w3 at *
  by_cases hn1 : n = 1
  · subst hn1
    go_wp2
    go_ret
    exact ⟨rfl, hB4⟩
  · by_cases hb0 : by_ = 0
    · subst hb0
      have hn2 : ((n : Int) == 1) = false := by simp; omega
      go_wp2
      go_ret
      exact ⟨rfl, hB4⟩
    · have hn2 : ((n : Int) == 1) = false := by simp; omega
      have hb2 : ((by_ : Int) == 0) = false := by simp; omega
      have hbn : (UInt8.ofNat by_).toNat = by_ := by rw [UInt8.toNat_ofNat']; simp only [Nat.reducePow]; omega
      obtain ⟨m, rfl⟩ : ∃ m, n = m + 1 := ⟨n - 1, by omega⟩
      rw [Nat.add_sub_cancel] at HU
      have hjm : at_ % m < m := Nat.mod_lt _ (by omega)
      obtain ⟨j, hj⟩ : ∃ j, at_ % m = j := ⟨_, rfl⟩
      rw [hj] at hjm
      have hji : (at_ : Int) % m = j := by omega
      have hm1 : ((m + 1 : Nat) : Int) - 1 = m := by omega
      have hm2 : IntKind.i64.wrap (((m + 1 : Nat) : Int) - 1) = m := by rw [hm1]; exact IntWalk.i64_in _ (by omega)
      have hm3 : ((m : Int) == 0) = false := by simp; omega
      have hm4 : Int.tmod (at_ : Int) m = j := by rw [Int.tmod_eq_emod_of_nonneg (by omega)]; exact hji
      obtain ⟨e1, e2⟩ := HU.out j hjm (by rw [hbn]; exact hb0)
      have hlj : l + j < l + (m + 1) := by omega
      obtain ⟨g, rfl, hg1, hg2⟩ := hown2.form (by omega)
      obtain ⟨⟨u0, hcl⟩, hfz, hst⟩ := Own.store (x := UInt8.ofNat by_) hown2 hlj
      rw [byteV_ofNat, show (by_ : Int) % 256 = by_ by omega] at hst
      have hle := hst.len
      have T3 := trail_any _ _ _ _ _ hst.bs
      have C3 := clean_any _ _ _ _ _ hst.bs
      rw [trailE_yes (by rw [e1]; omega), e1] at T3
      rw [e2] at C3
      have HT3 := Lib.hid T3
      have HC3 := Lib.hid C3
      have hB5 := hB4.setCell (p := ⟨g, l + j, none⟩) (by show w.heap.size ≤ g; omega) (.int .u8 by_)
      clear T3 C3 e1 e2 hown2 hst hle hj hbn hb0 hn1 hji
      go_wp2_with fail
      refine (HT3.out).mono ?_
      rintro e w' ⟨rfl, rfl⟩
      go_wp2_with fail
      refine (HC3.out).mono ?_
      rintro e w' ⟨rfl, rfl⟩
      go_wp2
      go_ret
      exact ⟨rfl, hB5⟩

theorem padTrail_all (A : Option Addr) (l c : Nat) (s : List UInt8) (n at_ by_ : Int) (w : World) (hs : Bs w A l c s) (hn : (Lit.int .u8 n).wf = true) (ha : (Lit.int .u16 at_).wf = true) (hb : (Lit.int .u8 by_).wf = true) :
    Calls Try.prog 4 #[.slice A l c, .int .u8 n, .int .u16 at_, .int .u8 by_] w fun e w' => e = .returned (.bool true) ∧ Below w.heap.size w w' := by
  have hle := hs.le
  have hcap := hs.cap
  obtain ⟨n1, n2⟩ := bound_u8 hn
  obtain ⟨b1, b2⟩ := bound_u8 hb
  have a12 : 0 ≤ at_ ∧ at_ ≤ 65535 := by
    have h1 : IntKind.u16.min = 0 := rfl
    have h2 : IntKind.u16.max = 65535 := rfl
    simp only [Lit.wf, Bool.and_eq_true, decide_eq_true_eq] at ha
    omega
  by_cases hl : 3000 < l
  · exact padTrail_big A l c n at_ by_ w hl (by omega)
  · by_cases hn0 : n = 0
    · subst hn0
      exact padTrail_zero A l c s at_ by_ w hs (by omega)
    · obtain ⟨n, rfl⟩ := Int.eq_ofNat_of_zero_le n1
      obtain ⟨by_, rfl⟩ := Int.eq_ofNat_of_zero_le b1
      obtain ⟨at_, rfl⟩ := Int.eq_ofNat_of_zero_le a12.1
      exact padTrail_main A l c s n at_ by_ w hs (by omega) (by omega) (by omega) (by omega) (by omega)

end Go.Proofs.Ytfafhadhciefiaa

/-
  For every input the statement TrainSplits holds: the function of that name returns true, and what it was handed reads as before. No condition.
-/
import Derived.Test.YtkfinkmbdpdepaaRows
import Derived.WalkKit
import Derived.ProofKit
import Derived.OpenShut
import Derived.ShutString
import Derived.ChangeOld
import Derived.Below
import Derived.Lib.SmallJoins
import Derived.Deep.Grids
import Derived.ChangeMaps5
import Derived.SliceStrings
import Derived.Test.YtkfinkmbdpdepaaTrainSplitsW
import Derived.Test.YtkfinkmbdpdepaaTrainE
import Derived.Test.YtkfinkmbdpdepaaOpenRow
import Derived.Test.YtkfinkmbdpdepaaNat
import Derived.Test.YtkfinkmbdpdepaaTrainJ
import Derived.Test.YtkfinkmbdpdepaaBase
namespace Go.Proofs.Ytkfinkmbdpdepaa.trainSplits
open Go.ChangeShapes Go.WideShapes Go.ChangeAt Go.RowKit
open Go.Deep (open_bools)
set_option linter.unusedVariables false

theorem own : ownKnob Try.prog.godebug = none := by kernel_rfl
theorem laidOut : laidOutB Try.prog = true := by kernel_rfl

theorem walk (a0 : Option Addr) (len0 cap0 : Nat) (z0 : List Int) (a1 : Option Addr) (len1 cap1 : Nat) (z1 : List Int) (a2 : Option Addr) (len2 cap2 : Nat) (a3 : Int) (a4 : Option Addr) (len4 cap4 : Nat) (z4 : List Int) (a5 : Int) (W : World) (w0 : IsRow .u8 W a0 len0 cap0 z0) (w1 : IsRow .u8 W a1 len1 cap1 z1) (w2 : IsRows 1 W a2 len2 cap2 (fun cs => ∃ (a2_0 : Option Addr) (len2_0 cap2_0 : Nat) (z2_0 : List Int) , cs = [.slice a2_0 len2_0 cap2_0] ∧ IsRow .u8 W a2_0 len2_0 cap2_0 z2_0 ∧ True)) (w3 : (Lit.int .u8 a3).wf = true) (w4 : IsRow .u8 W a4 len4 cap4 z4) (w5 : (Lit.int .u16 a5).wf = true) :
    Calls Try.prog 5 #[.slice a0 len0 cap0, .slice a1 len1 cap1, .slice a2 len2 cap2, .int .u8 a3, .slice a4 len4 cap4, .int .u16 a5] W fun e w' => e = .returned (.bool true) ∧ Below W.heap.size W w' := by
  obtain ⟨sk, hk⟩ := bs_of_row w0
  obtain ⟨sq, hq⟩ := bs_of_row w1
  obtain ⟨L, hL⟩ := bls_of_rows w2
  obtain ⟨tr, rfl, htr⟩ := nat_u8 w3
  obtain ⟨u, hu⟩ := bs_of_row w4
  obtain ⟨ct, rfl, hct⟩ := nat_u16 w5
  exact trainSplits_all train_calls a0 len0 cap0 sk a1 len1 cap1 sq a2 len2 cap2 L tr a4 len4 cap4 u ct W hk hq hL hu htr hct

set_option maxRecDepth 100000 in
theorem lifted (os : Os) (started : os.Started) (H : Type) (enc : TypeId × Value → H) :
    ReturnsInHanded {} Try.checked os 5 .any (Rows.trainSplitsSpec.pre6 enc Try.prog Try.f5 Rows.trainSplitsRow.domain false) (Rows.trainSplitsSpec.post enc Try.prog Try.f5 false true false false) := by
  refine returnsInHanded_of_change (C := Try.checked) own started (by kernel_rfl) Try.func5
    (ChangeSpec.witness6 (enc := enc) (C := Try.checked) false ⟨#[], #[.slice none 0 0, .slice none 0 0, .slice none 0 0, .int .u8 0, .slice none 0 0, .int .u16 0], []⟩ 8 (by kernel_rfl) (by kernel_rfl) (by kernel_rfl) (by kernel_rfl)) ?_
  intro W base args ds gs before hval0 hW hcnd _
  have hval : ∀ (j : Nat) t v, Try.f5.params[j]? = some t → args[j]? = some v → Value.okWide Try.prog W .any base t v := hval0
  have hW' := hW
  obtain ⟨p, q, hA0, hV, rfl, hfz, hnd⟩ := hW
  have hA : DataW.TrodAll enc Try.prog W 0 (fun _ => true) true Try.f5.params.toList args.toList ds p := hA0
  rw [Try.params5] at hA hval
  obtain ⟨v0, vs0, d0, ds0, p0, q0, hargs, rfl, rfl, h0, r0⟩ := trodAll_cons hA
  obtain ⟨v1, vs1, d1, ds1, p1, q1, rfl, rfl, rfl, h1, r1⟩ := trodAll_cons r0
  obtain ⟨v2, vs2, d2, ds2, p2, q2, rfl, rfl, rfl, h2, r2⟩ := trodAll_cons r1
  obtain ⟨v3, vs3, d3, ds3, p3, q3, rfl, rfl, rfl, h3, r3⟩ := trodAll_cons r2
  obtain ⟨v4, vs4, d4, ds4, p4, q4, rfl, rfl, rfl, h4, r4⟩ := trodAll_cons r3
  obtain ⟨v5, vs5, d5, ds5, p5, q5, rfl, rfl, rfl, h5, r5⟩ := trodAll_cons r4
  obtain ⟨rfl, rfl, rfl⟩ := trodAll_nil r5
  obtain rfl : args = #[v0, v1, v2, v3, v4, v5] := by cases args; simp_all
  obtain ⟨rfl, rfl⟩ := trodVars_none hV
  have k0 := h0
  have lt0 : ∀ x ∈ p0, x.block < W.heap.size := by obtain ⟨m, hm⟩ := k0; exact DataW.trod_lt m _ _ _ hm
  obtain ⟨fuel0, hf0⟩ := h0
  have e0c : v0.cells.toList = [v0] := by obtain ⟨q1, q2, q3, rfl⟩ := okWide_slice Try.underlying22 (hval 0 22 v0 rfl rfl); rfl
  obtain ⟨a0, len0, cap0, z0, e0, w0⟩ : ∃ (a : Option Addr) (l c : Nat) (zs : List Int), v0 = .slice a l c ∧ IsRow .u8 W a l c zs := by
    rw [e0c] at hf0
    rcases open_ints Try.underlying22 Try.underlying5 (by kernel_rfl) hf0 with ⟨hcs, _⟩ | ⟨x, l, c, zs, hcs, _, hl, hm, hz, _, hcell, hwz⟩
    · exact ⟨none, 0, 0, [], by simpa using hcs, .inl ⟨rfl, rfl, rfl, rfl⟩⟩
    · exact ⟨some x, l, c, zs, by simpa using hcs, .inr ⟨x, rfl, hl, hm, by simpa using hz, hcell, hwz⟩⟩
  subst e0
  clear e0c
  have k1 := h1
  have lt1 : ∀ x ∈ p1, x.block < W.heap.size := by obtain ⟨m, hm⟩ := k1; exact DataW.trod_lt m _ _ _ hm
  obtain ⟨fuel1, hf1⟩ := h1
  have e1c : v1.cells.toList = [v1] := by obtain ⟨q1, q2, q3, rfl⟩ := okWide_slice Try.underlying22 (hval 1 22 v1 rfl rfl); rfl
  obtain ⟨a1, len1, cap1, z1, e1, w1⟩ : ∃ (a : Option Addr) (l c : Nat) (zs : List Int), v1 = .slice a l c ∧ IsRow .u8 W a l c zs := by
    rw [e1c] at hf1
    rcases open_ints Try.underlying22 Try.underlying5 (by kernel_rfl) hf1 with ⟨hcs, _⟩ | ⟨x, l, c, zs, hcs, _, hl, hm, hz, _, hcell, hwz⟩
    · exact ⟨none, 0, 0, [], by simpa using hcs, .inl ⟨rfl, rfl, rfl, rfl⟩⟩
    · exact ⟨some x, l, c, zs, by simpa using hcs, .inr ⟨x, rfl, hl, hm, by simpa using hz, hcell, hwz⟩⟩
  subst e1
  clear e1c
  have k2 := h2
  have lt2 : ∀ x ∈ p2, x.block < W.heap.size := by obtain ⟨m, hm⟩ := k2; exact DataW.trod_lt m _ _ _ hm
  obtain ⟨fuel2, hf2⟩ := h2
  have e2c : v2.cells.toList = [v2] := by obtain ⟨q1, q2, q3, rfl⟩ := okWide_slice Try.underlying37 (hval 2 37 v2 rfl rfl); rfl
  obtain ⟨a2, len2, cap2, e2, w2⟩ : ∃ (a : Option Addr) (l c : Nat), v2 = .slice a l c ∧ IsRows 1 W a l c (fun cs => ∃ (a2_0 : Option Addr) (len2_0 cap2_0 : Nat) (z2_0 : List Int) , cs = [.slice a2_0 len2_0 cap2_0] ∧ IsRow .u8 W a2_0 len2_0 cap2_0 z2_0 ∧ True) := by
    rw [e2c] at hf2
    rcases open_rows Try.underlying37 (k := 1) (by kernel_rfl) (by omega) hf2 with hcs | ⟨x, l, c, nn, hcs, hl, hm, hx⟩
    · exact ⟨none, 0, 0, by simpa using hcs, .inl ⟨rfl, rfl, rfl⟩⟩
    · refine ⟨some x, l, c, by simpa using hcs, .inr ⟨x, rfl, hl, hm, fun i hi => ?_⟩⟩
      obtain ⟨bb, oo, cs1, yy, hxx, hlen1, hcell1, hy1⟩ := hx i hi
      obtain ⟨x2_0, rfl⟩ := List.length_eq_one_iff.1 hlen1
      obtain ⟨a2_0, len2_0, cap2_0, z2_0, e2_0, w2_0⟩ : ∃ (a : Option Addr) (l c : Nat) (zs : List Int), x2_0 = .slice a l c ∧ IsRow .u8 W a l c zs := by
        rcases open_ints Try.underlying22 Try.underlying5 (by kernel_rfl) hy1 with ⟨hcs, _⟩ | ⟨x, l, c, zs, hcs, _, hl, hm, hz, _, hcell, hwz⟩
        · exact ⟨none, 0, 0, [], by simpa using hcs, .inl ⟨rfl, rfl, rfl, rfl⟩⟩
        · exact ⟨some x, l, c, zs, by simpa using hcs, .inr ⟨x, rfl, hl, hm, by simpa using hz, hcell, hwz⟩⟩
      subst e2_0
      exact ⟨bb, oo, _, hxx, hlen1, hcell1, a2_0, len2_0, cap2_0, z2_0, rfl, w2_0, trivial⟩
  subst e2
  clear e2c
  obtain ⟨a3, rfl, rfl, rfl, w3⟩ := open_int Try.underlying5 (hval 3 5 v3 rfl rfl) h3
  have k4 := h4
  have lt4 : ∀ x ∈ p4, x.block < W.heap.size := by obtain ⟨m, hm⟩ := k4; exact DataW.trod_lt m _ _ _ hm
  obtain ⟨fuel4, hf4⟩ := h4
  have e4c : v4.cells.toList = [v4] := by obtain ⟨q1, q2, q3, rfl⟩ := okWide_slice Try.underlying22 (hval 4 22 v4 rfl rfl); rfl
  obtain ⟨a4, len4, cap4, z4, e4, w4⟩ : ∃ (a : Option Addr) (l c : Nat) (zs : List Int), v4 = .slice a l c ∧ IsRow .u8 W a l c zs := by
    rw [e4c] at hf4
    rcases open_ints Try.underlying22 Try.underlying5 (by kernel_rfl) hf4 with ⟨hcs, _⟩ | ⟨x, l, c, zs, hcs, _, hl, hm, hz, _, hcell, hwz⟩
    · exact ⟨none, 0, 0, [], by simpa using hcs, .inl ⟨rfl, rfl, rfl, rfl⟩⟩
    · exact ⟨some x, l, c, zs, by simpa using hcs, .inr ⟨x, rfl, hl, hm, by simpa using hz, hcell, hwz⟩⟩
  subst e4
  clear e4c
  obtain ⟨a5, rfl, rfl, rfl, w5⟩ := open_int Try.underlying45 (hval 5 45 v5 rfl rfl) h5
  clear hA0 hval0
  refine (walk a0 len0 cap0 z0 a1 len1 cap1 z1 a2 len2 cap2 a3 a4 len4 cap4 z4 a5 W w0 w1 w2 w3 w4 w5).mono fun e W' ⟨he, bel⟩ => ?_
  subst he
  exact ⟨_, rfl, _, _, _, [], _, [], hW', trodAll_mk1 (shut_bool Try.underlying4 _), (trodAll_cons_mk (Below.trod laidOut (by kernel_rfl) (of_decide_eq_true (by kernel_rfl)) k0 bel lt0) (trodAll_cons_mk (Below.trod laidOut (by kernel_rfl) (of_decide_eq_true (by kernel_rfl)) k1 bel lt1) (trodAll_cons_mk (Below.trod laidOut (by kernel_rfl) (of_decide_eq_true (by kernel_rfl)) k2 bel lt2) (trodAll_cons_mk (shut_int Try.underlying5 w3) (trodAll_cons_mk (Below.trod laidOut (by kernel_rfl) (of_decide_eq_true (by kernel_rfl)) k4 bel lt4) (trodAll_cons_mk (shut_int Try.underlying45 w5) trodAll_mk0)))))), rfl, bel.frame _, fun h => by cases h⟩

theorem over : Rows.trainSplitsRow.holds Try.pinned (OpenSpec.ofChange Rows.trainSplitsSpec) :=
  OpenClaim.holds_of_wide 5 Try.f5 rfl rfl rfl rfl rfl rfl rfl ⟨rfl, rfl, rfl, rfl, rfl⟩ rfl rfl rfl rfl rfl (by kernel_rfl) Try.func5 (by kernel_rfl)
    (of_decide_eq_true (by kernel_rfl)) (by unfold Func.isWrapper; first | (rw [if_pos (by decide +kernel)]; kernel_rfl) | (rw [if_neg (by decide +kernel)]; exact ⟨rfl, rfl⟩))
    (fun os started H enc _ => lifted os started H enc)

theorem proved : Rows.TrainSplitsSaid := over
#print axioms proved
end Go.Proofs.Ytkfinkmbdpdepaa.trainSplits

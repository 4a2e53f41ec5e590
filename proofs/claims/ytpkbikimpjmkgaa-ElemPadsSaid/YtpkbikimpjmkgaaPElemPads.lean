/-
  For every input the statement ElemPads holds: the function of that name returns true, and what it was handed reads as before. No condition.
-/
import Derived.Test.YtpkbikimpjmkgaaRows
import Derived.WalkKit
import Derived.ProofKit
import Derived.OpenShut
import Derived.ShutString
import Derived.ChangeOld
import Derived.Below
import Derived.Lib.SmallJoins
import Derived.Deep.Grids
import Derived.ChangeMaps5
import Derived.SliceStrings
import Derived.Test.YtpkbikimpjmkgaaElemPadsW
import Derived.Test.YtpkbikimpjmkgaaElemA
import Derived.Test.YtpkbikimpjmkgaaOpen2
import Derived.Test.YtpkbikimpjmkgaaNat
import Derived.Test.YtpkbikimpjmkgaaElemG5
import Derived.Test.YtpkbikimpjmkgaaBase
namespace Go.Proofs.Ytpkbikimpjmkgaa.elemPads
open Go.ChangeShapes Go.WideShapes Go.ChangeAt Go.RowKit
open Go.Deep (open_bools)
set_option linter.unusedVariables false

theorem own : ownKnob Try.prog.godebug = none := by kernel_rfl
theorem laidOut : laidOutB Try.prog = true := by kernel_rfl

theorem walk (a0 : Option Addr) (len0 cap0 : Nat) (a1 : Option Addr) (len1 cap1 : Nat) (z1 : List Int) (a2 : Int) (a3 : Option Addr) (len3 cap3 : Nat) (z3 : List Int) (W : World) (w0 : IsRows 2 W a0 len0 cap0 (fun cs => ∃ (a0_0 : Int) (a0_1 : Option Addr) (len0_1 cap0_1 : Nat) (z0_1 : List Int) , cs = [.int .i64 a0_0, .slice a0_1 len0_1 cap0_1] ∧ (Lit.int .i64 a0_0).wf = true ∧ IsRow .u8 W a0_1 len0_1 cap0_1 z0_1 ∧ True)) (w1 : IsRow .u8 W a1 len1 cap1 z1) (w2 : (Lit.int .u8 a2).wf = true) (w3 : IsRow .u8 W a3 len3 cap3 z3) :
    Calls Try.prog 5 #[.slice a0 len0 cap0, .slice a1 len1 cap1, .int .u8 a2, .slice a3 len3 cap3] W fun e w' => e = .returned (.bool true) ∧ Below W.heap.size W w' := by
  obtain ⟨l, hl, hid⟩ := els_of_rows w0
  obtain ⟨s, hs⟩ := bs_of_row w1
  obtain ⟨k, rfl, hk⟩ := nat_u8 w2
  obtain ⟨y, hy⟩ := bs_of_row w3
  exact elemPads_all elem_calls a0 len0 cap0 l a1 len1 cap1 s k a3 len3 cap3 y W hl hs hy hk hid

set_option maxRecDepth 100000 in
theorem lifted (os : Os) (started : os.Started) (H : Type) (enc : TypeId × Value → H) :
    ReturnsInHanded {} Try.checked os 5 .any (Rows.elemPadsSpec.pre6 enc Try.prog Try.f5 Rows.elemPadsRow.domain false) (Rows.elemPadsSpec.post enc Try.prog Try.f5 false true false false) := by
  refine returnsInHanded_of_change (C := Try.checked) own started (by kernel_rfl) Try.func5
    (ChangeSpec.witness6 (enc := enc) (C := Try.checked) false ⟨#[], #[.slice none 0 0, .slice none 0 0, .int .u8 0, .slice none 0 0], []⟩ 8 (by kernel_rfl) (by kernel_rfl) (by kernel_rfl) (by kernel_rfl)) ?_
  intro W base args ds gs before hval0 hW hcnd _
  have hval : ∀ (j : Nat) t v, Try.f5.params[j]? = some t → args[j]? = some v → Value.okWide Try.prog W .any base t v := hval0
  have hW' := hW
  obtain ⟨p, q, hA0, hV, rfl, hfz, hnd⟩ := hW
  have hA : DataW.TrodAll enc Try.prog W 0 (fun _ => true) true Try.f5.params.toList args.toList ds p := hA0
  rw [Try.params5] at hA hval
  obtain ⟨v0, vs0, d0, ds0, p0, q0, hargs, rfl, rfl, h0, r0⟩ := trodAll_cons hA
  obtain ⟨v1, vs1, d1, ds1, p1, q1, rfl, rfl, rfl, h1, r1⟩ := trodAll_cons r0
  obtain ⟨v2, vs2, d2, ds2, p2, q2, rfl, rfl, rfl, h2, r2⟩ := trodAll_cons r1
  obtain ⟨v3, vs3, d3, ds3, p3, q3, rfl, rfl, rfl, h3, r3⟩ := trodAll_cons r2
  obtain ⟨rfl, rfl, rfl⟩ := trodAll_nil r3
  obtain rfl : args = #[v0, v1, v2, v3] := by cases args; simp_all
  obtain ⟨rfl, rfl⟩ := trodVars_none hV
  have k0 := h0
  have lt0 : ∀ x ∈ p0, x.block < W.heap.size := by obtain ⟨m, hm⟩ := k0; exact DataW.trod_lt m _ _ _ hm
  obtain ⟨fuel0, hf0⟩ := h0
  have e0c : v0.cells.toList = [v0] := by obtain ⟨q1, q2, q3, rfl⟩ := okWide_slice Try.underlying22 (hval 0 22 v0 rfl rfl); rfl
  obtain ⟨a0, len0, cap0, e0, w0⟩ : ∃ (a : Option Addr) (l c : Nat), v0 = .slice a l c ∧ IsRows 2 W a l c (fun cs => ∃ (a0_0 : Int) (a0_1 : Option Addr) (len0_1 cap0_1 : Nat) (z0_1 : List Int) , cs = [.int .i64 a0_0, .slice a0_1 len0_1 cap0_1] ∧ (Lit.int .i64 a0_0).wf = true ∧ IsRow .u8 W a0_1 len0_1 cap0_1 z0_1 ∧ True) := by
    rw [e0c] at hf0
    rcases open_rows Try.underlying22 (k := 2) (by kernel_rfl) (by omega) hf0 with hcs | ⟨x, l, c, nn, hcs, hl, hm, hx⟩
    · exact ⟨none, 0, 0, by simpa using hcs, .inl ⟨rfl, rfl, rfl⟩⟩
    · refine ⟨some x, l, c, by simpa using hcs, .inr ⟨x, rfl, hl, hm, fun i hi => ?_⟩⟩
      obtain ⟨bb, oo, cs1, yy, hxx, hlen1, hcell1, hy1⟩ := hx i hi
      obtain ⟨x0_0, x0_1, y0_0, y0_1, n0, rfl, hy0, g0_0, g0_1⟩ := trod_agg2 Try.underlying49 (by kernel_rfl) (by kernel_rfl) hy1
      obtain ⟨a0_0, e0_0, _, w0_0⟩ := DataW.trod_int Try.underlying3 g0_0
      obtain rfl : x0_0 = .int .i64 a0_0 := by simpa using e0_0
      clear e0_0
      obtain ⟨a0_1, len0_1, cap0_1, z0_1, e0_1, w0_1⟩ : ∃ (a : Option Addr) (l c : Nat) (zs : List Int), x0_1 = .slice a l c ∧ IsRow .u8 W a l c zs := by
        rcases open_ints Try.underlying24 Try.underlying5 (by kernel_rfl) g0_1 with ⟨hcs, _⟩ | ⟨x, l, c, zs, hcs, _, hl, hm, hz, _, hcell, hwz⟩
        · exact ⟨none, 0, 0, [], by simpa using hcs, .inl ⟨rfl, rfl, rfl, rfl⟩⟩
        · exact ⟨some x, l, c, zs, by simpa using hcs, .inr ⟨x, rfl, hl, hm, by simpa using hz, hcell, hwz⟩⟩
      subst e0_1
      exact ⟨bb, oo, _, hxx, hlen1, hcell1, a0_0, a0_1, len0_1, cap0_1, z0_1, rfl, w0_0, w0_1, trivial⟩
  subst e0
  clear e0c
  have k1 := h1
  have lt1 : ∀ x ∈ p1, x.block < W.heap.size := by obtain ⟨m, hm⟩ := k1; exact DataW.trod_lt m _ _ _ hm
  obtain ⟨fuel1, hf1⟩ := h1
  have e1c : v1.cells.toList = [v1] := by obtain ⟨q1, q2, q3, rfl⟩ := okWide_slice Try.underlying24 (hval 1 24 v1 rfl rfl); rfl
  obtain ⟨a1, len1, cap1, z1, e1, w1⟩ : ∃ (a : Option Addr) (l c : Nat) (zs : List Int), v1 = .slice a l c ∧ IsRow .u8 W a l c zs := by
    rw [e1c] at hf1
    rcases open_ints Try.underlying24 Try.underlying5 (by kernel_rfl) hf1 with ⟨hcs, _⟩ | ⟨x, l, c, zs, hcs, _, hl, hm, hz, _, hcell, hwz⟩
    · exact ⟨none, 0, 0, [], by simpa using hcs, .inl ⟨rfl, rfl, rfl, rfl⟩⟩
    · exact ⟨some x, l, c, zs, by simpa using hcs, .inr ⟨x, rfl, hl, hm, by simpa using hz, hcell, hwz⟩⟩
  subst e1
  clear e1c
  obtain ⟨a2, rfl, rfl, rfl, w2⟩ := open_int Try.underlying5 (hval 2 5 v2 rfl rfl) h2
  have k3 := h3
  have lt3 : ∀ x ∈ p3, x.block < W.heap.size := by obtain ⟨m, hm⟩ := k3; exact DataW.trod_lt m _ _ _ hm
  obtain ⟨fuel3, hf3⟩ := h3
  have e3c : v3.cells.toList = [v3] := by obtain ⟨q1, q2, q3, rfl⟩ := okWide_slice Try.underlying24 (hval 3 24 v3 rfl rfl); rfl
  obtain ⟨a3, len3, cap3, z3, e3, w3⟩ : ∃ (a : Option Addr) (l c : Nat) (zs : List Int), v3 = .slice a l c ∧ IsRow .u8 W a l c zs := by
    rw [e3c] at hf3
    rcases open_ints Try.underlying24 Try.underlying5 (by kernel_rfl) hf3 with ⟨hcs, _⟩ | ⟨x, l, c, zs, hcs, _, hl, hm, hz, _, hcell, hwz⟩
    · exact ⟨none, 0, 0, [], by simpa using hcs, .inl ⟨rfl, rfl, rfl, rfl⟩⟩
    · exact ⟨some x, l, c, zs, by simpa using hcs, .inr ⟨x, rfl, hl, hm, by simpa using hz, hcell, hwz⟩⟩
  subst e3
  clear e3c
  clear hA0 hval0
  refine (walk a0 len0 cap0 a1 len1 cap1 z1 a2 a3 len3 cap3 z3 W w0 w1 w2 w3).mono fun e W' ⟨he, bel⟩ => ?_
  subst he
  exact ⟨_, rfl, _, _, _, [], _, [], hW', trodAll_mk1 (shut_bool Try.underlying4 _), (trodAll_cons_mk (Below.trod laidOut (by kernel_rfl) (of_decide_eq_true (by kernel_rfl)) k0 bel lt0) (trodAll_cons_mk (Below.trod laidOut (by kernel_rfl) (of_decide_eq_true (by kernel_rfl)) k1 bel lt1) (trodAll_cons_mk (shut_int Try.underlying5 w2) (trodAll_cons_mk (Below.trod laidOut (by kernel_rfl) (of_decide_eq_true (by kernel_rfl)) k3 bel lt3) trodAll_mk0)))), rfl, bel.frame _, fun h => by cases h⟩

theorem over : Rows.elemPadsRow.holds Try.pinned (OpenSpec.ofChange Rows.elemPadsSpec) :=
  OpenClaim.holds_of_wide 5 Try.f5 rfl rfl rfl rfl rfl rfl rfl ⟨rfl, rfl, rfl, rfl, rfl⟩ rfl rfl rfl rfl rfl (by kernel_rfl) Try.func5 (by kernel_rfl)
    (of_decide_eq_true (by kernel_rfl)) (by unfold Func.isWrapper; first | (rw [if_pos (by decide +kernel)]; kernel_rfl) | (rw [if_neg (by decide +kernel)]; exact ⟨rfl, rfl⟩))
    (fun os started H enc _ => lifted os started H enc)

theorem proved : Rows.ElemPadsSaid := over
#print axioms proved
end Go.Proofs.Ytpkbikimpjmkgaa.elemPads
